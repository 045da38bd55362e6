/-
  Part of the proof of MendWhole.
-/
import Derived.Test.YtkdhdibjbabgfaaGreatDoorVw31
import Derived.Test.YtkdhdibjbabgfaaGreatDoorVw32
import Derived.Test.YtkdhdibjbabgfaaGreatDoorVw47
import Derived.Test.YtkdhdibjbabgfaaGreatDoorVw0
set_option maxRecDepth 100000
set_option maxHeartbeats 2000000
set_option linter.unusedVariables false
set_option linter.unusedSimpArgs false
namespace Go.Proofs.YtkdhdibjbabgfaaGreatDoor
open Go.Lib Go.RowKit Go.ChangeShapes Go.WideShapes Go.Deep Go.Shelf
theorem drop_pred {α : Type} [Inhabited α] {l : List α} {j : Nat} (h : j < l.length) : l.drop j = l.getD j default :: l.drop (j + 1) := by
 rw [List.drop_eq_getElem_cons h, List.getD_eq_getElem?_getD, List.getElem?_eq_getElem h]; rfl
theorem opRun {v : Value} {w : World} {base : Nat} {ops : List Ox} (h : OwnE 53 3 opE w base v ops) (hb : base ≤ w.heap.size) (hlen : ops.length ≤ 1000000) (k a : Int) (x : Nat) :
 ∃ v' w', (Builtin.append_ #[35, 35] 35 #[v, .slice (some ⟨w.heap.size, 0, none⟩) 1 1]).run Tryz.prog (w.alloc (.cells #[.int .i64 k, .int .i64 a, .int .u64 (x : Nat)] (53 : Nat))) = .ok v' w' ∧ OwnE 53 3 opE w' base v' (ops ++ [(k, a, x)]) ∧ Below base w w' := by
 have hlit : EL 3 opE (w.alloc (.cells #[.int .i64 k, .int .i64 a, .int .u64 (x : Nat)] (53 : Nat))) (.slice (some ⟨w.heap.size, 0, none⟩) 1 1) [((k, a, x) : Ox)] := (OwnE.lit 53 opE_len w [((k, a, x) : Ox)] _ rfl (by simp)).el opE_len
 obtain ⟨v', w1, hrun, ho, hg, hl2, hnn⟩ := appE opT (h.alloc _) hlit (by simp; omega) (by omega) (by simp)
 exact ⟨v', w1, hrun, ho, ((bZ w _).mono hb).trans (grown_below hg (by simp; omega) (fun k q => (h.lt k q).1))⟩
theorem active_any (v : Value) (I : List Nat) (L ln s c gn : Nat) (w : World) (hw : Lw w) (hW : WL I) (hv : KL .u64 w v I) (hg : gOk (I.length : Nat) (L : Nat) = true) (hln : ln < L) (hN : I.length ≤ 800) (hc : c < 16384) (hgn : gn < 18446744073709551616) (hlb : laneB I (I.length : Nat) (L : Nat) (ln : Nat) = true) :
 Calls Tryz.prog 42 #[v, .agg #[.int .i64 (I.length : Nat), .int .i64 (L : Nat)], .int .i64 (ln : Nat), .agg #[.int .i64 (s : Nat), .int .i64 (c : Nat), .int .u64 (gn : Nat)]] w fun e w' => ∃ v', e = .returned (.tuple #[v', .bool (notedD I L ln c gn).isSome]) ∧ OPL w' v' ((notedD I L ln c gn).getD []) ∧ Below w.heap.size w w' := by
 obtain ⟨nn, hnn⟩ : ∃ n, I.length = n := ⟨_, rfl⟩
 obtain ⟨s1, s2, s3, s4, s5, s6, s7, s8⟩ := pool_size hg
 have h40 : gNat I.length L ≤ 40 := by omega
 have hMl := lh (fun w1 (hb : Below w.heap.size w w1) => rlog_yes v I L ln w1 (hw.keep hb) hW (hv.keep hb) hg hln h40 hlb)
 have hPB := logSp_PB hg hln
 have hlen := logSp_len (ln := ln) hg
 obtain ⟨ht0, ht8⟩ := logSp_tot hg hln hN
 have hgc := gath_cut I hPB c
 have hgl := gath_len I hPB
 have hgw := gath_WL hW (logSp I L ln)
 have hnd : notedD I L ln c gn = (if totS (logSp I L ln) < (c : Int) then none else match decL gn (gathL I (cutL (logSp I L ln) (0, (c : Int)))) with
  | none => none
  | some es => if es.all (entIn I.length L) then some (es.reverse.flatMap entOps) else none) := rfl
 obtain ⟨G, hG⟩ : ∃ G, gNat I.length L = G := ⟨_, rfl⟩
 have hei : ∀ x : Pe, 1 ≤ x.2.length → entIn I.length L x = !(decide (x.1 < ((10 + 73 * L + G : Nat) : Int)) || decide (((10 + 73 * L + G + G * 32 : Nat) : Int) < x.1 + (x.2.length : Int))) := fun x hx => by rw [← hG]; exact entIn_ref hx
 obtain ⟨R, hR⟩ : ∃ R, logSp I L ln = R := ⟨_, rfl⟩
 rw [hR] at hMl hPB hlen ht0 ht8 hgc hgl hgw hnd
 have hRl : R.length ≤ 1000 := by omega
 have hGa := lh (fun u1 w1 (hb : Below w.heap.size w w1) (h2 : PL w1 u1 R) => refGather_any v u1 I R w1 hPB hRl (by omega) (hv.keep hb) h2)
 obtain ⟨T, hT⟩ : ∃ T, totS R = T := ⟨_, rfl⟩
 rw [hT] at ht0 ht8 hgc hgl hnd
 obtain ⟨Z0, hZ0⟩ : ∃ Z, gathL I R = Z := ⟨_, rfl⟩
 rw [hZ0] at hgc hgl hgw hGa
 obtain ⟨nz, hnz⟩ : ∃ n, Z0.length = n := ⟨_, rfl⟩
 have hnzT : (nz : Int) = T := by omega
 have hDe := lh (fun v1 w1 (hl : (Z0.take c).length ≤ 800) (h : KL .u64 w1 v1 (Z0.take c)) => refDecode_any gn v1 (Z0.take c) w1 hgn (fun x hx => hgw x (List.mem_of_mem_take hx)) hl h)
 have hlk := s5
 have hCk := lh (fun w1 => show Calls Tryz.prog 48 #[.agg #[.int .i64 (I.length : Nat), .int .i64 (L : Nat)], .int .i64 0] w1 (fun e w' => e = .returned (.agg #[.int .i64 ((10 + 73 * L + G : Nat) : Int), .int .i64 32]) ∧ Below w1.heap.size w1 w') from by
  have h := refChunk_yes (I.length : Nat) (L : Nat) 0 w1 hg (by omega) (by omega)
  unfold cFrom at h
  rw [s5] at h
  rw [← hG, show (((10 + 73 * L + gNat I.length L : Nat) : Int)) = 10 + 73 * (L : Int) + (gNat I.length L : Nat) + 0 * 32 from by omega]
  exact h)
 have hCs := lh (fun w1 => show Calls Tryz.prog 57 #[.agg #[.int .i64 (I.length : Nat), .int .i64 (L : Nat)]] w1 (fun e w' => e = .returned (.int .i64 (G : Nat)) ∧ Below w1.heap.size w1 w') from by
  have h := refChunks_t (I.length : Nat) (L : Nat) w1 hg
  rw [s5, hG] at h
  exact h)
 rw [hnn] at hMl hei hCk hCs
 rw [hnn]
 obtain ⟨Fi, hFi⟩ : ∃ x, 10 + 73 * L + G = x := ⟨_, rfl⟩
 rw [hFi] at hei hCk
 obtain ⟨En, hEn⟩ : ∃ x, Fi + G * 32 = x := ⟨_, rfl⟩
 rw [hEn] at hei
 have hFiB : Fi ≤ 1000 := by omega
 have hEnB : En ≤ 3000 := by omega
 have hGB : G ≤ 40 := by omega
 have hmul : IntKind.i64.wrap (32 * (G : Int)) = 32 * (G : Int) := wrapS _ (by omega) (by omega)
 have hadd : (Fi : Int) + 32 * (G : Int) = (En : Int) := by omega
 have hadw : IntKind.i64.wrap (En : Int) = (En : Int) := wrapS _ (by omega) (by omega)
 have hb1 := bZ w (.cells #[.int .i64 (nn : Nat), .int .i64 (L : Nat)] 33)
 have hG1 := HB.new w #[.int .i64 (nn : Nat), .int .i64 (L : Nat)] 33
 obtain ⟨wa, hwa⟩ : ∃ x, w.alloc (.cells #[.int .i64 (nn : Nat), .int .i64 (L : Nat)] 33) = x := ⟨_, rfl⟩
 have hsa : wa.heap.size = w.heap.size + 1 := by rw [← hwa]; simp
 rw [hwa] at hb1 hG1
 have hb2 := bZ wa (.cells #[.int .i64 (s : Nat), .int .i64 (c : Nat), .int .u64 (gn : Nat)] 70)
 have gM := HB.new wa #[.int .i64 (s : Nat), .int .i64 (c : Nat), .int .u64 (gn : Nat)] 70
 obtain ⟨wb, hwb⟩ : ∃ x, wa.alloc (.cells #[.int .i64 (s : Nat), .int .i64 (c : Nat), .int .u64 (gn : Nat)] 70) = x := ⟨_, rfl⟩
 rw [hwb] at hb2 gM
 have gG := hG1.keep hb2
 have hB : Below w.heap.size w wb := hb1.trans (hb2.mono hb1.size)
 rw [hsa] at gM
 obtain ⟨C, hC⟩ : ∃ C, w.heap.size = C := ⟨_, rfl⟩
 rw [hC] at gG gM hsa
 obtain ⟨i0, hi, hz0, hz1, hz2⟩ := info_parts infoU64
 clear hb1 hb2 hG1 hv hw
 replace hnn := lh hnn
 replace hR := lh hR
 replace hT := lh hT
 replace hZ0 := lh hZ0
 replace hnd := lh hnd
 replace hgc := lh hgc
 replace hG := lh hG
 replace hFi := lh hFi
 replace hEn := lh hEn
 replace hei := lh hei
 replace hnz := lh hnz
 go_enter Tryz.func42, Tryz.ntmps42
 obtain ⟨q0, q1⟩ := gG.c2
 subst hwb hwa
 go_wp2_with fail
 refine (hMl.out _ hB).mono ?_
 rintro e w1 ⟨vR, rfl, hoR, hb1⟩
 have hB1 := hB.trans (hb1.mono hB.size)
 have gG1 := gG.keep hb1
 have gM1 := gM.keep hb1
 clear q0 q1 hMl hb1 hB gG gM hsa
 go_wp2_with fail
 refine (hGa.out _ _ hB1 hoR.pl).mono ?_
 rintro e w2 ⟨vZ, rfl, hoZ, hb2⟩
 obtain ⟨AZ, cZ, rfl⟩ := hoZ.sl hnz.out
 have hB2 := hB1.trans (hb2.mono hB1.size)
 have gG2 := gG1.keep hb2
 have gM2 := gM1.keep hb2
 have m1' := (row_cell gM2 1).1
 clear hGa hoR hB1 gG1 gM1 hb2
 by_cases hcT : nz < c
 ·have hno := lh (show notedD I L ln c gn = none from by rw [hnd.out, if_pos (by omega)])
  have hcT' : (nz : Int) < (c : Int) := by omega
  clear hnd hgc
  go_wp2_with fail
  go_ret2
  exact ⟨_, by rw [hno.out]; rfl, by rw [hno.out]; exact OPL.nil _, by first | exact hB2 | (rw [hC] at hB2; exact hB2)⟩
 have hcT2 : (c : Int) ≤ T := by omega
 have hcT' : ¬ (nz : Int) < (c : Int) := by omega
 have hZt : (Z0.take c).length = c := by rw [List.length_take]; have := hnz.out; omega
 have hZ8 : (Z0.take c).length ≤ 800 := by omega
 have hnd2 := lh (show notedD I L ln c gn = (match decL gn (Z0.take c) with
  | none => none
  | some es => if es.all (entIn nn L) = true then some (es.reverse.flatMap entOps) else none) from by rw [hnd.out, if_neg (by omega), hgc.out hcT2, hnn.out])
 have hsl := fun w1 => run_slice_to (P := Tryz.prog) (ty := 23) Tryz.underlying23 hi AZ nz cZ c (by have := (hoZ.kl.form hnz.out); obtain ⟨A9, c9, hv9, h9⟩ := this; cases hv9; rcases Nat.eq_zero_or_pos nz with q | q; omega; obtain ⟨g, off, _, h2, _⟩ := h9 w2 0 (Below.refl _ _) q; omega) w1
 have hCF := lh (fun w' (hb : Below w2.heap.size w2 w') => show w'.cell? ⟨C + 1, 1, none⟩ = some (.int .i64 (c : Nat)) ∧ w'.cell? ⟨C + 1, 2, none⟩ = some (.int .u64 (gn : Nat)) from ⟨(row_cell (gM2.keep hb) 1).1, (row_cell (gM2.keep hb) 2).1⟩)
 have hes := lh (fun es (h : decL gn (Z0.take c) = some es) => decL_bd h)
 clear hnd hgc hcT hgl ht0 ht8
 rcases hD : decL gn (Z0.take c) with _ | es
 ·have hno := lh (show notedD I L ln c gn = none from by rw [hnd2.out, hD])
  rw [hD] at hDe
  simp only [Option.isSome_none, Option.getD_none] at hDe
  clear hnd2 hD hes
  go_wp2_with fail
  refine wp_region_held_drew (S := (fun w' => Below w2.heap.size w2 w')) (by kernel_rfl) (Below.refl _ _).drew (fun hHeld => ?_)
  refine takeH 0 ?_
  refine takeH 1 ?_
  refine takeH 2 ?_
  refine takeH 3 ?_
  refine takeH 4 ?_
  refine takeH 5 ?_
  refine oneL 6 rfl (by kernel_rfl) (fun K hK => ?_)
  go_simp
  refine (hDe.out _ _ hZ8 ((hoZ.kl.keep hHeld).take c (by have := hnz.out; omega))).mono ?_; rintro e w5 ⟨vE, rfl, hEN, hb⟩
  refine hK.out _ _ (hHeld.trans (hb.mono hHeld.size)) (fun hHeld2 => ?_)
  clear hK K hHeld
  have hHeld := hHeld2
  clear hHeld2
  try simp only [Act.put,sA,sB,sC]
  refine takeH 7 ?_
  refine takeH 8 ?_
  refine takeH 9 ?_
  refine takeH 10 ?_
  refine takeH 11 ?_
  refine wpAnyH_done (by kernel_rfl) ?_ _
  have hB5 := hB2.trans (hHeld.mono hB2.size)
  clear gG2 gM2 hB2 hHeld hEN hCF hDe hsl m1'
  go_wp2_with fail
  go_ret2
  exact ⟨_, by rw [hno.out]; rfl, by rw [hno.out]; exact OPL.nil _, by first | exact hB5 | (rw [hC] at hB5; exact hB5)⟩
 obtain ⟨hel, heb⟩ := hes.out _ hD
 have hnd3 := lh (show notedD I L ln c gn = if es.all (entIn nn L) = true then some (es.reverse.flatMap entOps) else none from by rw [hnd2.out, hD])
 rw [hD] at hDe
 simp only [Option.isSome_some, Option.getD_some] at hDe
 clear hnd2 hD hes
 go_wp2_with fail
 refine wp_region_held_drew (S := (fun w' => Below w2.heap.size w2 w')) (by kernel_rfl) (Below.refl _ _).drew (fun hHeld => ?_)
 refine takeH 0 ?_
 refine takeH 1 ?_
 refine takeH 2 ?_
 refine takeH 3 ?_
 refine takeH 4 ?_
 refine takeH 5 ?_
 refine oneL 6 rfl (by kernel_rfl) (fun K hK => ?_)
 go_simp
 refine (hDe.out _ _ hZ8 ((hoZ.kl.keep hHeld).take c (by have := hnz.out; omega))).mono ?_; rintro e w5 ⟨vE, rfl, hEN, hb⟩
 refine hK.out _ _ (hHeld.trans (hb.mono hHeld.size)) (fun hHeld2 => ?_)
 clear hK K hHeld
 have hHeld := hHeld2
 clear hHeld2
 try simp only [Act.put,sA,sB,sC]
 refine takeH 7 ?_
 refine takeH 8 ?_
 refine takeH 9 ?_
 refine takeH 10 ?_
 refine takeH 11 ?_
 refine wpAnyH_done (by kernel_rfl) ?_ _
 have gG5 := gG2.keep hHeld
 have hB5 := hB2.trans (hHeld.mono hB2.size)
 obtain ⟨N, hNx⟩ : ∃ N, es.length = N := ⟨_, rfl⟩
 obtain ⟨A, cap, rfl⟩ := hEN.sl
 rw [hNx] at hEN ⊢
 obtain ⟨q0, q1⟩ := gG5.c2
 have hfd := fun w => field0 (Fi : Nat) 32 w
 clear gG2 gM2 hB2 hHeld hoZ hCF hDe hb hsl m1'
 go_wp2_with fail
 refine (hCk.out _).mono ?_
 rintro e w6 ⟨rfl, hb6⟩
 have gG6 := gG5.keep hb6
 have hEN6 := hEN.keep hb6
 have hB6 := hB5.trans (hb6.mono hB5.size)
 clear q0 q1 gG5 hEN hB5 hb6 hCk
 obtain ⟨q0, q1⟩ := gG6.c2
 go_wp2_with fail
 refine (hCs.out _).mono ?_
 rintro e w7 ⟨rfl, hb7⟩
 have hEN7 := hEN6.keep hb7
 have hB7 := hB6.trans (hb7.mono hB6.size)
 have hN8 : N ≤ 800 := by omega
 have hw1 : IntKind.i64.wrap ((N : Int) - 1) = (N : Int) - 1 := by rw [IntKind.wrap_i64]; omega
 clear q0 q1 gG6 hEN6 hB6 hb7 hCs hfd
 go_wp2_with fail
 have hB7' := hB7
 have hEa := lh (fun k (hk : k < N) => hEN7.at hNx w7 (Below.refl _ _) k hk)
 have hdp := lh (fun k (hk : k < N) => drop_pred (l := es) (j := k) (by omega))
 have hd0 := lh (show es.drop N = [] from List.drop_eq_nil_of_le (by omega))
 have hd1 := lh (show es.drop 0 = es from rfl)
 have hbadE := lh (fun (x : Pe) (hx : x ∈ es) (h : entIn nn L x = false) => show notedD I L ln c gn = none from by
  rw [hnd3.out, if_neg (fun q => by have := List.all_eq_true.1 q x hx; rw [h] at this; cases this)])
 have hokE := lh (fun (h : es.all (entIn nn L) = true) => show notedD I L ln c gn = some (es.reverse.flatMap entOps) from by rw [hnd3.out, if_pos h])
 have hebH := lh heb
 replace hNx := lh hNx
 clear hnd3 heb hEN7 hadd hmul hadw
 go_loopw [16, 15] (fun i v15 wr => ∃ (j : Nat) (O : List Ox), j ≤ N ∧ i = .int .i64 ((j : Int) - 1) ∧ Hid (O = (es.drop j).reverse.flatMap entOps) ∧ Hid ((es.drop j).all (entIn nn L) = true) ∧ O.length ≤ 800 * (N - j) ∧ OwnE 53 3 opE wr w7.heap.size v15 O ∧ Below w7.heap.size w7 wr) (fun i _ _ => (intOf i + 1).toNat)
 case atStart => exact ⟨N, [], Nat.le_refl _, by go_num, lh (by rw [hd0.out]; rfl), lh (by rw [hd0.out]; rfl), Nat.zero_le _, OwnE.nil _ _ _ _ _, Below.refl _ _⟩
 case round =>
  obtain ⟨j, O, hj, rfl, hO, hAl, hOl, hown, hbr⟩ := hrel
  cases j with
  | zero =>
    have hyes := lh (hokE.out (by rw [← hd1.out]; exact hAl.out))
    have hOe := lh (show O = es.reverse.flatMap entOps from by rw [hO.out, hd1.out])
    have e1 : ((0 : Nat) : Int) - 1 = -1 := by omega
    have hBe := hB7.trans (hbr.mono hB7.size)
    rw [e1]
    obtain ⟨A9, n9, c9, rfl⟩ := hown.sl3
    clear hAl hO hbr hOl hj
    go_wp2_with fail
    go_ret2
    exact ⟨_, by rw [hyes.out]; rfl, by rw [hyes.out, ← hOe.out]; exact hown.el opE_len, by first | exact hBe | (rw [hC] at hBe; exact hBe)⟩
  | succ j =>
    have e1 : ((j + 1 : Nat) : Int) - 1 = (j : Int) := by omega
    rw [e1]
    obtain ⟨ge, oe, ea, eA, el, ec, rfl, hce, hge, hgd, hem, hKe, d07, d17⟩ := hEa.out j (by omega)
    obtain ⟨k1, k2, k3, k4⟩ := hebH.out _ hem
    simp only [] at k1 k2 k3 k4
    have hdj := hdp.out j (by omega)
    rw [hgd] at hdj
    have hin := hei.out (ea, el) k3
    simp only [] at hin
    obtain ⟨n9, hn9⟩ : ∃ n, el.length = n := ⟨_, rfl⟩
    rw [hn9] at d17 hin k3 k4 hKe
    have hn98 : n9 ≤ 800 := by omega
    have hDc := lh (fun w1 (hb : Below w7.heap.size w7 w1) => show w1.cell? ⟨ge, oe + j * 2, none⟩ = some (.int .i64 ea) ∧ w1.cell? ⟨ge, oe + j * 2 + 1, none⟩ = some (.slice eA n9 ec) from ⟨((bcell hb).1 _ _ hge).trans d07, ((bcell hb).1 _ _ hge).trans d17⟩)
    have hCF := lh (fun w' (hb : Below wr.heap.size wr w') => hDc.out w' (hbr.trans (hb.mono hbr.size)))
    have hji : (j : Int) < (N : Int) := by omega
    have hj0 : (0 : Int) ≤ (j : Int) := by omega
    have hwa : IntKind.i64.wrap (ea + (n9 : Int)) = ea + (n9 : Int) := by rw [IntKind.wrap_i64]; omega
    have hBe := hB7.trans (hbr.mono hB7.size)
    replace hn9 := lh hn9
    clear d07 d17 hgd
    by_cases h1 : ea < (Fi : Int)
    ·have hno := lh (hbadE.out _ hem (by rw [hin, decide_eq_true h1]; rfl))
     have hdB := hBe.drew
     clear hdj hin hem hO hAl hown
     go_wp2_with fail
     refine wp_region_held_drew (S := (fun w' => Below wr.heap.size wr w')) (by kernel_rfl) (Below.refl _ _).drew (fun hHeld => ?_)
     refine takeH 0 ?_
     refine takeH 1 ?_
     refine takeH 2 ?_
     refine takeH 3 ?_
     refine takeH 4 ?_
     refine takeH 5 ?_
     refine takeH 6 ?_
     refine takeH 7 ?_
     refine idleQ 8 ?_
     refine idleQ 9 ?_
     refine idleQ 10 ?_
     refine idleQ 11 ?_
     refine idleQ 12 ?_
     refine idleQ 13 ?_
     refine idleQ 14 ?_
     refine idleQ 15 ?_
     refine idleQ 16 ?_
     refine idleQ 17 ?_
     refine idleQ 18 ?_
     refine idleQ 19 ?_
     refine idleQ 20 ?_
     refine idleQ 21 ?_
     refine takeH 22 ?_
     refine wpAnyH_done (by kernel_rfl) ?_ _
     clear hCF hHeld
     go_wp2_with fail
     go_ret2
     exact ⟨_, by rw [hno.out]; rfl, by rw [hno.out]; exact OPL.nil _, by first | exact hdB | (rw [hC] at hdB; exact hdB)⟩
    have h1' : decide (ea < (Fi : Int)) = false := decide_eq_false h1
    by_cases h2 : (En : Int) < ea + (n9 : Int)
    ·have hno := lh (hbadE.out _ hem (by rw [hin, decide_eq_true h2, Bool.or_true]; rfl))
     have h2' : decide ((En : Int) < ea + (n9 : Int)) = true := decide_eq_true h2
     have hdB := hBe.drew
     clear hdj hin hem hO hAl hown
     go_wp2_with fail
     refine wp_region_held_drew (S := (fun w' => Below wr.heap.size wr w')) (by kernel_rfl) (Below.refl _ _).drew (fun hHeld => ?_)
     refine takeH 0 ?_
     refine takeH 1 ?_
     refine takeH 2 ?_
     refine takeH 3 ?_
     refine takeH 4 ?_
     refine takeH 5 ?_
     refine takeH 6 ?_
     refine takeH 7 ?_
     refine takeH 8 ?_
     refine takeH 9 ?_
     refine takeH 10 ?_
     refine takeH 11 ?_
     refine takeH 12 ?_
     refine takeH 13 ?_
     refine takeH 14 ?_
     refine takeH 15 ?_
     refine takeH 16 ?_
     refine takeH 17 ?_
     refine takeH 18 ?_
     refine takeH 19 ?_
     refine takeH 20 ?_
     refine takeH 21 ?_
     refine takeH 22 ?_
     refine wpAnyH_done (by kernel_rfl) ?_ _
     clear hCF hHeld
     go_wp2_with fail
     go_ret2
     exact ⟨_, by rw [hno.out]; rfl, by rw [hno.out]; exact OPL.nil _, by first | exact hdB | (rw [hC] at hdB; exact hdB)⟩
    have h2' : decide ((En : Int) < ea + (n9 : Int)) = false := decide_eq_false h2
    have hAn := lh (show (es.drop j).all (entIn nn L) = true from by rw [hdj, List.all_cons, hAl.out, hin, h1', h2']; rfl)
    have hOn := lh (show O ++ entOps (ea, el) = (es.drop j).reverse.flatMap entOps from by rw [hdj, List.reverse_cons, List.flatMap_append, hO.out]; simp)
    have hpt := lh (fun k (h : k < n9) => show (entOps (ea, el)).take (k + 1) = (entOps (ea, el)).take k ++ [((0 : Int), ea + (k : Int), el.getD k 0)] from entOps_take (ea, el) k (by show k < el.length; have := hn9.out; omega))
    have hfull := lh (show (entOps (ea, el)).take n9 = entOps (ea, el) from List.take_of_length_le (by rw [entOps_len]; show el.length ≤ n9; have := hn9.out; omega))
    have hKc := lh (fun w1 (hb : Below w7.heap.size w7 w1) k (hk : k < n9) => show ∃ g off, eA = some ⟨g, off, none⟩ ∧ n9 ≤ ec ∧ g < w1.heap.size ∧ w1.cell? ⟨g, off + k, none⟩ = some (.int .u64 (el.getD k 0 : Nat)) from by
     obtain ⟨A8, c8, hv8, h8⟩ := hKe.form hn9.out
     cases hv8
     obtain ⟨g, off, q1, q2, q3, q4⟩ := h8 w1 k hb hk
     exact ⟨g, off, q1, q2, q3, q4⟩)
    obtain ⟨eo, heo⟩ : ∃ eo, entOps (ea, el) = eo := ⟨_, rfl⟩
    rw [heo] at hOn hpt hfull
    have hz : O ++ eo.take 0 = O := by simp
    have hown0 := hown
    rw [← hz] at hown0
    replace hz := lh hz
    replace heo := lh heo
    have hOl2 : O.length + 800 ≤ 800 * (N - j) := by omega
    clear hdj hin hem hO hAl hown hBe
    go_wp2_with fail
    refine wp_region_held_drew (S := (fun w' => Below wr.heap.size wr w')) (by kernel_rfl) (Below.refl _ _).drew (fun hHeld => ?_)
    refine takeH 0 ?_
    refine takeH 1 ?_
    refine takeH 2 ?_
    refine takeH 3 ?_
    refine takeH 4 ?_
    refine takeH 5 ?_
    refine takeH 6 ?_
    refine takeH 7 ?_
    refine takeH 8 ?_
    refine takeH 9 ?_
    refine takeH 10 ?_
    refine takeH 11 ?_
    refine takeH 12 ?_
    refine takeH 13 ?_
    refine takeH 14 ?_
    refine takeH 15 ?_
    refine takeH 16 ?_
    refine takeH 17 ?_
    refine takeH 18 ?_
    refine takeH 19 ?_
    refine takeH 20 ?_
    refine takeH 21 ?_
    refine takeH 22 ?_
    refine wpAnyH_done (by kernel_rfl) ?_ _
    have hown1 := OwnE.keep hown0 hHeld
    have hbr1 := hbr.trans (hHeld.mono hbr.size)
    clear hCF hHeld hbr hown0
    go_wp2_with fail
    go_loopw [17, 15] (fun i v15 wq => ∃ (k : Nat), k ≤ n9 ∧ i = .int .i64 (k : Nat) ∧ OwnE 53 3 opE wq w7.heap.size v15 (O ++ eo.take k) ∧ Below w7.heap.size w7 wq) (fun i _ _ => n9 + 1 - (intOf i).toNat)
    case atStart => exact ⟨0, Nat.zero_le _, rfl, hown1, hbr1⟩
    case round =>
     obtain ⟨k, hk, rfl, hown, hbq⟩ := hrel
     clear hown1 hbr1
     obtain ⟨d0, d1⟩ := hDc.out wr hbq
     by_cases hlt : k < n9
     ·obtain ⟨g5, o5, rfl, hc5, hg5, c0⟩ := hKc.out wr hbq k hlt
      have hlt' : (k : Int) < (n9 : Int) := by omega
      have hp1 := lh (hpt.out k hlt)
      generalize el.getD k 0 = x at *
      have hw2 : IntKind.i64.wrap (ea + (k : Int)) = ea + (k : Int) := by rw [IntKind.wrap_i64]; omega
      have hCF := lh (fun w' (hb : Below wr.heap.size wr w') => show (w'.cell? ⟨ge, oe + j * 2, none⟩ = some (.int .i64 ea) ∧ w'.cell? ⟨ge, oe + j * 2 + 1, none⟩ = some (.slice (some ⟨g5, o5, none⟩) n9 ec)) ∧ w'.cell? ⟨g5, o5 + k, none⟩ = some (.int .u64 (x : Nat)) from ⟨hDc.out w' (hbq.trans (hb.mono hbq.size)), ((bcell hb).1 _ _ hg5).trans c0⟩)
      obtain ⟨v8, w8, hrun, ho8, hb8⟩ := opRun hown.drew (show w7.heap.size ≤ wr.drew.heap.size from hbq.size) (by rw [List.length_append, List.length_take]; omega) 0 (ea + (k : Int)) x
      replace hrun : (Builtin.append_ #[35, 35] 35 #[u15, .slice (some ⟨wr.heap.size, 0, none⟩) 1 1]).run Tryz.prog (wr.drew.alloc (.cells #[.int .i64 0, .int .i64 (ea + (k : Int)), .int .u64 (x : Nat)] (53 : Nat))) = .ok v8 w8 := hrun
      rw [List.append_assoc, ← hp1.out] at ho8
      have hb9 := (hbq.drew).trans hb8
      clear c0 hown hb8
      go_wp2_with fail
      refine wp_region_tail (S := (fun w' => Below wr.heap.size wr w')) (n := 18) (by kernel_rfl) (Below.refl _ _).drew (fun hHeld hInv => ?_) (by decide)
      refine takeHS 0 hInv ?_; clear hInv; intro hInv
      refine takeHS 1 hInv ?_; clear hInv; intro hInv
      refine takeHS 2 hInv ?_; clear hInv; intro hInv
      refine takeHS 3 hInv ?_; clear hInv; intro hInv
      refine takeHS 4 hInv ?_; clear hInv; intro hInv
      refine takeHS 5 hInv ?_; clear hInv; intro hInv
      refine takeHS 6 hInv ?_; clear hInv; intro hInv
      refine takeHS 7 hInv ?_; clear hInv; intro hInv
      refine takeHS 8 hInv ?_; clear hInv; intro hInv
      refine takeHS 9 hInv ?_; clear hInv; intro hInv
      refine takeHS 10 hInv ?_; clear hInv; intro hInv
      refine takeHS 11 hInv ?_; clear hInv; intro hInv
      refine takeHS 12 hInv ?_; clear hInv; intro hInv
      refine takeHS 13 hInv ?_; clear hInv; intro hInv
      refine takeHS 14 hInv ?_; clear hInv; intro hInv
      refine takeHS 15 hInv ?_; clear hInv; intro hInv
      refine takeHS 16 hInv ?_; clear hInv; intro hInv
      refine oneS 17 hInv (by decide) rfl (by kernel_rfl) (fun K hK => ?_)
      go_simp
      have hb := bZ wr.drew (.cells #[.int .i64 0, .int .i64 (ea + (k : Int)), .int .u64 (x : Nat)] (53 : Nat))
      refine hK.out _ _ (hHeld.trans (hb.mono hHeld.size)) (fun hHeld2 hInv2 => ?_)
      clear hK K hHeld hInv
      have hHeld := hHeld2
      have hInv := hInv2
      clear hHeld2 hInv2
      try simp only [Act.put,sA,sB,sC] at hInv ⊢
      refine lastS 18 rfl (by decide) (by kernel_rfl) (fun K hK => ?_)
      rw [if_pos (by rfl)]
      refine wp_append_run _ _ _ _ rfl _ _ _ rfl rfl hrun ?_
      refine hK.out _ _ ?_
      clear hK K
      try simp only [Act.put,sA,sB,sC]
      refine lastS 19 rfl (by decide) (by kernel_rfl) (fun K hK => ?_)
      go_simp
      refine hK.out _ _ ?_
      clear hK K
      try simp only [Act.put,sA,sB,sC]
      refine wpAnyS_done (by kernel_rfl) ?_ _
      clear hCF hHeld hInv
      go_wp2_with fail
      go_roundw
      case rel => exact ⟨k + 1, by omega, by go_num, ho8, hb9⟩
      case measure => first | (simp [intOf]; done) | (simp [intOf]; omega)
     ·obtain rfl : n9 = k := by omega
      have hlt' : decide ((n9 : Int) < (n9 : Int)) = false := decide_eq_false (by omega)
      rw [hfull.out, hOn.out] at hown
      have hw3 : IntKind.i64.wrap ((j : Int) - 1) = (j : Int) - 1 := by rw [IntKind.wrap_i64]; omega
      have hol3 : ((es.drop j).reverse.flatMap entOps).length ≤ 800 * (N - j) := by rw [← hOn.out, List.length_append, ← heo.out, entOps_len]; have := hn9.out; simp only []; omega
      go_wp2_with fail
      go_roundw
      case rel => exact ⟨j, _, by omega, by first | rfl | go_num, lh rfl, hAn, hol3, hown, hbq⟩
      case measure => first | (simp [intOf]; done) | (simp [intOf]; omega)
end Go.Proofs.YtkdhdibjbabgfaaGreatDoor
