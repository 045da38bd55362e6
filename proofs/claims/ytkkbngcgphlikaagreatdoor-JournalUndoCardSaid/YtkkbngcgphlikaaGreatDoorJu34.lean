/-
  Part of the proof of JournalUndo.
-/
import Derived.Test.YtkkbngcgphlikaaGreatDoorJu30
import Derived.Test.YtkkbngcgphlikaaGreatDoorJu32
import Derived.Test.YtkkbngcgphlikaaGreatDoorRows
import Derived.Test.YtkkbngcgphlikaaGreatDoorJu0
set_option maxRecDepth 100000
set_option maxHeartbeats 1000000
set_option linter.unusedVariables false
set_option linter.unusedSimpArgs false
section
namespace Go.Proofs.YtkkbngcgphlikaaGreatDoor
open Go.Lib Go.RowKit Go.ChangeShapes Go.WideShapes Go.Deep Go.Shelf
theorem fieldQ (x y : Int) (w : World) : (Instr.field 70 (.agg #[.int .i64 x, .int .i64 y]) 0).run Tryz.prog w = .ok (.int .i64 x) w := by kernel_rfl
theorem refPlace_any (N L c j m : Nat) (w : World) (hg : gOk (N : Nat) (L : Nat) = true) (h1 : c < gNat N L) (h2 : j * m ≤ 1000) (h3 : j ≤ 100) (h4 : m ≤ 300000) :
 Calls Tryz.prog 50 #[.agg #[.int .i64 (N : Nat), .int .i64 (L : Nat)], .agg #[.int .i64 (c : Nat), .int .i64 (j : Nat), .int .i64 (m : Nat)]] w fun e w' => e = .returned (.int .i64 (plc N L (c, j, m) : Nat)) ∧ Below w.heap.size w w' := by
 obtain ⟨s1, s2, s3, s4, s5, s6, s7, s8⟩ := pool_size hg
 obtain ⟨F, hF⟩ : ∃ F, 10 + 73 * L + gNat N L + c * 32 = F := ⟨_, rfl⟩
 have hCh := lh (fun w1 => show Calls Tryz.prog 36 #[.agg #[.int .i64 (N : Nat), .int .i64 (L : Nat)], .int .i64 (c : Nat)] w1 (fun e w' => e = .returned (.agg #[.int .i64 (F : Nat), .int .i64 32]) ∧ Below w1.heap.size w1 w') from by
  have h := refChunk_yes (N : Nat) (L : Nat) (c : Nat) w1 hg (by omega) (by omega)
  unfold cFrom at h
  rw [show ((F : Nat) : Int) = 10 + 73 * (L : Int) + gN (N : Nat) (L : Nat) + (c : Int) * 32 from by omega]
  exact h)
 obtain ⟨Q, hQ⟩ : ∃ Q, j * m = Q := ⟨_, rfl⟩
 have hQ1 : (m : Int) * (j : Int) = (Q : Int) := by rw [← hQ]; simp [Int.mul_comm]
 have hQ2 : IntKind.i64.wrap (Q : Int) = (Q : Int) := wrapQ_so _ (by omega) (by omega)
 obtain ⟨R, hR⟩ : ∃ R, F + Q = R := ⟨_, rfl⟩
 have hR1 : (F : Int) + (Q : Int) = (R : Int) := by omega
 have hR2 : IntKind.i64.wrap (R : Int) = (R : Int) := wrapQ_so _ (by omega) (by omega)
 have e : plc N L (c, j, m) = R := by
  show 10 + 73 * L + gNat N L + c * 32 + j * m = R
  omega
 rw [e]
 clear e hR hF hQ hg s1 s2 s3 s4 s5 s6 s7 s8 h1
 have hb0 := bZ w (.cells #[.int .i64 (N : Nat), .int .i64 (L : Nat)] 37)
 have gG := HB.new w #[.int .i64 (N : Nat), .int .i64 (L : Nat)] 37
 obtain ⟨wb1, hwb1⟩ : ∃ x, w.alloc (.cells #[.int .i64 (N : Nat), .int .i64 (L : Nat)] 37) = x := ⟨_, rfl⟩
 have hswb1 : wb1.heap.size = w.heap.size + 1 := by rw [← hwb1]; simp
 rw [hwb1] at hb0 gG
 have hB : Below w.heap.size w wb1 := hb0
 have hb1 := bZ wb1 (.cells #[.int .i64 (c : Nat), .int .i64 (j : Nat), .int .i64 (m : Nat)] 93)
 have gK := HB.new wb1 #[.int .i64 (c : Nat), .int .i64 (j : Nat), .int .i64 (m : Nat)] 93
 obtain ⟨wb2, hwb2⟩ : ∃ x, wb1.alloc (.cells #[.int .i64 (c : Nat), .int .i64 (j : Nat), .int .i64 (m : Nat)] 93) = x := ⟨_, rfl⟩
 have hswb2 : wb2.heap.size = w.heap.size + 2 := by rw [← hwb2]; simp; omega
 rw [hwb2] at hb1 gK
 rw [hswb1] at gK
 replace gG := gG.keep hb1
 replace hB := hB.trans (hb1.mono (by omega))
 obtain ⟨C, hC⟩ : ∃ C, w.heap.size = C := ⟨_, rfl⟩
 rw [hC] at gG gK hswb1 hswb2
 clear hb0 hb1
 have hCF := lh (fun w' (hb : Below wb2.heap.size wb2 w') => show w'.cell? ⟨C, 0, none⟩ = some (.int .i64 (N : Nat)) ∧ w'.cell? ⟨C, 1, none⟩ = some (.int .i64 (L : Nat)) ∧ w'.cell? ⟨C + 1, 0, none⟩ = some (.int .i64 (c : Nat)) ∧ w'.cell? ⟨C + 1, 1, none⟩ = some (.int .i64 (j : Nat)) ∧ w'.cell? ⟨C + 1, 2, none⟩ = some (.int .i64 (m : Nat)) from
  ⟨(gG.keep hb).c2.1, (gG.keep hb).c2.2, (row_cell (gK.keep hb) 0).1, (row_cell (gK.keep hb) 1).1, (row_cell (gK.keep hb) 2).1⟩)
 have hfd := fun w1 => fieldQ (F : Nat) 32 w1
 go_enter Tryz.func50, Tryz.ntmps50
 go_wp2_with fail
 refine wp_region_held_drew (S := (fun w' => Below wb2.heap.size wb2 w')) (by kernel_rfl) (Below.refl _ _).drew (fun hHeld => ?_)
 refine takeH 0 ?_
 refine takeH 1 ?_
 refine takeH 2 ?_
 refine takeH 5 ?_
 refine takeH 6 ?_
 refine takeH 7 ?_
 refine takeH 8 ?_
 refine takeH 9 ?_
 refine oneL 3 rfl (by kernel_rfl) (fun K hK => ?_)
 go_simp
 refine (hCh.out _).mono ?_; rintro e w5 ⟨rfl, hb⟩
 refine hK.out _ _ (hHeld.trans (hb.mono hHeld.size)) (fun hHeld2 => ?_)
 clear hK K hHeld
 have hHeld := hHeld2
 clear hHeld2
 try simp only [Act.put,sA,sB,sC]
 refine takeH 4 ?_
 refine takeH 10 ?_
 refine takeH 11 ?_
 refine wpAnyH_done (by kernel_rfl) ?_ _
 have hBe := hB.trans (hHeld.mono hB.size)
 go_wp2_with fail
 go_ret
 exact ⟨rfl, by first | exact hBe | (rw [hC] at hBe; exact hBe)⟩
end Go.Proofs.YtkkbngcgphlikaaGreatDoor
end
section
namespace Go.Proofs.YtkkbngcgphlikaaGreatDoor
open Go.Lib Go.RowKit Go.ChangeShapes Go.WideShapes Go.Deep Go.Shelf
attribute [local go_sem] Oper.semAt_some
def noPan (Q : Exit → Act → World → Prop) : Exit → Act → World → Prop
 | .panic _, _, _ => False
 | e, a, w => Q e a w
theorem noPan_to {Q : Exit → Act → World → Prop} : ∀ e a w, noPan Q e a w → Q e a w := fun e a w h => by cases e <;> first | exact h.elim | exact h
theorem noPan_ret (Q : Exit → Act → World → Prop) (a : Act) (w : World) : noPan Q .ret a w = Q .ret a w := rfl
attribute [local go_sem] noPan_ret
theorem ko_below {W w1 : World} (h : Below W.heap.size W w1) : KeepsOthers W w1 := ⟨h.size, fun k o hk _ => (h.block k (Array.getElem?_eq_some_iff.1 hk).1).trans hk⟩
theorem all_bk {L : List Ex} {P : Pe → Bool} (h : ∀ y ∈ bk L 0, P (px y.2) = true) : (L.map px).all P = true := List.all_eq_true.2 fun z hz => by
 obtain ⟨x, hx, rfl⟩ := List.mem_map.1 hz
 have h1 : x ∈ (bk L 0).map Prod.snd := by rw [bk_snd2]; exact List.mem_reverse.2 hx
 obtain ⟨y, hy, rfl⟩ := List.mem_map.1 h1
 exact h y hy
theorem not_bk {L : List Ex} {P : Pe → Bool} {pre : List Bv} (hp : pre <+: bk L 0) (h : ∃ y ∈ pre, P (px y.2) = false) : ¬ (L.map px).all P = true := fun q => by
 obtain ⟨y, hy, hn⟩ := h
 have h1 : y.2 ∈ (bk L 0).map Prod.snd := List.mem_map_of_mem (hp.subset hy)
 rw [bk_snd2] at h1
 have := List.all_eq_true.1 q (px y.2) (List.mem_map_of_mem (List.mem_reverse.1 h1))
 rw [hn] at this
 cases this
theorem noted_any (v : Value) (I : List Nat) (L ln s c gn : Nat) (w : World) (hw : Lw w) (hW : WL I) (hv : KL .u64 w v I) (hg : gOk (I.length : Nat) (L : Nat) = true) (hln : ln < L) (hcm : CalmW (tabW I L)) (hN : I.length ≤ 800) (hc : c < 16384) (hgn : gn < 18446744073709551616) :
 Calls Tryz.prog 163 #[v, .agg #[.int .i64 (I.length : Nat), .int .i64 (L : Nat)], .int .i64 (ln : Nat), .agg #[.int .i64 (s : Nat), .int .i64 (c : Nat), .int .u64 (gn : Nat)]] w fun e w' => ∃ v', e = .returned (.tuple #[v', .bool (notedD I L ln c gn).isSome]) ∧ OPL w' v' ((notedD I L ln c gn).getD []) ∧ Below w.heap.size w w' := by
 obtain ⟨nn, hnn⟩ : ∃ n, I.length = n := ⟨_, rfl⟩
 obtain ⟨s1, s2, s3, s4, s5, s6, s7, s8⟩ := pool_size hg
 have h40 : LgN I L := ⟨by omega, hcm⟩
 clear hcm
 have hMl := lh (fun w1 (hb : Below w.heap.size w w1) => mlog_any v I L ln w1 (hw.keep hb) hW (hv.keep hb) hg hln h40)
 have hPB := logSp_PB hg hln
 have hSB := logSp_SB hg hln
 have hlen := logSp_len (ln := ln) hg
 obtain ⟨ht0, ht8⟩ := logSp_tot hg hln hN
 have hgc := gath_cut I hPB c
 have hgw := gath_WL hW (cutL (logSp I L ln) (0, (c : Int)))
 obtain ⟨hcp, hcl⟩ := cut_pb (0, (c : Int)) hPB
 have hnd : notedD I L ln c gn = (if totS (logSp I L ln) < (c : Int) then none else match decL gn (gathL I (cutL (logSp I L ln) (0, (c : Int)))) with
  | none => none
  | some es => if es.all (entIn I.length L) then some (es.reverse.flatMap entOps) else none) := rfl
 obtain ⟨R, hR⟩ : ∃ R, logSp I L ln = R := ⟨_, rfl⟩
 rw [hR] at hMl hPB hSB hlen ht0 ht8 hgc hgw hcp hcl hnd
 have hRl : R.length ≤ 1000 := by omega
 have hTo := lh (fun v1 w1 (h : PL w1 v1 R) => total_any v1 R w1 hSB hRl h)
 have hCu := lh (fun v1 w1 (h : PL w1 v1 R) => show Calls Tryz.prog 97 #[v1, .agg #[.int .i64 0, .int .i64 (c : Nat)]] w1 (fun e w' => ∃ v', e = .returned v' ∧ OwnSp w' w1.heap.size v' (cutL R (0, (c : Int))) ∧ Below w1.heap.size w1 w') from cut_any v1 R (0, (c : Int)) w1 hPB hRl (by simp only []; omega) (by simp only []; omega) (by simp only []; omega) (by simp only []; omega) h)
 obtain ⟨T, hT⟩ : ∃ T, totS R = T := ⟨_, rfl⟩
 rw [hT] at ht0 ht8 hgc hnd hTo
 obtain ⟨K, hK⟩ : ∃ K, cutL R (0, (c : Int)) = K := ⟨_, rfl⟩
 rw [hK] at hgc hgw hcp hcl hnd hCu
 have hGa := lh (fun v1 u1 w1 (h1 : KL .u64 w1 v1 I) (h2 : PL w1 u1 K) => gather_any v1 u1 I K w1 hcp (by omega) h1 h2)
 obtain ⟨Z, hZ⟩ : ∃ Z, gathL I K = Z := ⟨_, rfl⟩
 rw [hZ] at hgc hgw hnd hGa
 have hZl : (c : Int) ≤ T → Z.length ≤ 800 := fun h => by rw [hgc h, List.length_take]; omega
 have hDe := lh (fun v1 w1 (hl : Z.length ≤ 800) (h : KL .u64 w1 v1 Z) => Decode_any gn v1 Z w1 hgn hgw hl h)
 have hKv := lh (fun w1 (hb : Below w.heap.size w w1) => hv.keep hb)
 have hIc := lh (fun (a : Int) w1 => inCh_any I.length L a w1 hg)
 rw [hnn] at hMl hnd hIc
 rw [hnn]
 have hb1 := bZ w (.cells #[.int .i64 (nn : Nat), .int .i64 (L : Nat)] 37)
 have hG1 := HB.new w #[.int .i64 (nn : Nat), .int .i64 (L : Nat)] 37
 obtain ⟨wa, hwa⟩ : ∃ x, w.alloc (.cells #[.int .i64 (nn : Nat), .int .i64 (L : Nat)] 37) = x := ⟨_, rfl⟩
 have hsa : wa.heap.size = w.heap.size + 1 := by rw [← hwa]; simp
 rw [hwa] at hb1 hG1
 have hb2 := bZ wa (.cells #[.int .i64 (s : Nat), .int .i64 (c : Nat), .int .u64 (gn : Nat)] 123)
 have hM2 := HB.new wa #[.int .i64 (s : Nat), .int .i64 (c : Nat), .int .u64 (gn : Nat)] 123
 obtain ⟨wb, hwb⟩ : ∃ x, wa.alloc (.cells #[.int .i64 (s : Nat), .int .i64 (c : Nat), .int .u64 (gn : Nat)] 123) = x := ⟨_, rfl⟩
 have hsb : wb.heap.size = w.heap.size + 2 := by rw [← hwb]; simp; omega
 rw [hwb] at hb2 hM2
 have hb3 := bZ wb (.cells #[.slice none 0 0] 29)
 have hA3 := HB.new wb #[.slice none 0 0] 29
 obtain ⟨wc, hwc⟩ : ∃ x, wb.alloc (.cells #[.slice none 0 0] 29) = x := ⟨_, rfl⟩
 have hsc : wc.heap.size = w.heap.size + 3 := by rw [← hwc]; simp; omega
 rw [hwc] at hb3 hA3
 have hb4 := bZ wc (.cells #[.bool false] 4)
 have hA4 := HB.new wc #[.bool false] 4
 obtain ⟨wd, hwd⟩ : ∃ x, wc.alloc (.cells #[.bool false] 4) = x := ⟨_, rfl⟩
 have hsd : wd.heap.size = w.heap.size + 4 := by rw [← hwd]; simp; omega
 rw [hwd] at hb4 hA4
 have gG := ((hG1.keep hb2).keep hb3).keep hb4
 have gM := (hM2.keep hb3).keep hb4
 have gA := hA3.keep hb4
 have gF := hA4
 have hB : Below w.heap.size w wd := ((hb1.trans (hb2.mono (by omega))).trans (hb3.mono (by omega))).trans (hb4.mono (by omega))
 rw [hsa] at gM
 rw [hsb] at gA
 rw [hsc] at gF
 obtain ⟨C, hC⟩ : ∃ C, w.heap.size = C := ⟨_, rfl⟩
 rw [hC] at gG gM gA gF hsa hsb hsc hsd
 clear hb1 hb2 hb3 hb4 hG1 hM2 hA3 hA4 hv
 replace hnn := lh hnn
 replace hR := lh hR
 replace hT := lh hT
 replace hK := lh hK
 replace hZ := lh hZ
 replace hnd := lh hnd
 replace hgc := lh hgc
 refine callsIn_wide.1 (callsIn_of_wp_marks (n := 4) Tryz.func163 rfl trivial ?_ rfl)
 simp only [Tryz.ntmps163, List.size_toArray, List.length_cons, List.length_nil, Nat.reduceAdd, Nat.reduceSub, Array.replicate_succ, Array.replicate_zero, List.push_toArray, List.append_toArray, List.nil_append, List.cons_append]
 refine wpIn_wide.2 (Code.wp_mono (Q := noPan _) noPan_to ?_)
 obtain ⟨q0, q1⟩ := gG.c2
 subst hwd hwc hwb hwa
 go_wp2_with fail
 refine (hMl.out _ hB).mono ?_
 rintro e w1 ⟨vR, rfl, hoR, hb1⟩
 have hPR := hoR.pl
 have gG1 := gG.keep hb1
 have gM1 := gM.keep hb1
 have gA1 := gA.keep hb1
 have gF1 := gF.keep hb1
 have hB1 := hB.trans (hb1.mono hB.size)
 clear q0 q1 hMl hb1 hoR hB gG gM gA gF hsa hsb hsc hsd
 go_wp2_with fail
 have hCF := lh (fun w' (hb : Below w1.heap.size w1 w') => show w'.cell? ⟨C + 1, 1, none⟩ = some (.int .i64 (c : Nat)) ∧ True from ⟨(row_cell (gM1.keep hb) 1).1, trivial⟩)
 refine wp_region_held_drew (S := (fun w' => Below w1.heap.size w1 w')) (by kernel_rfl) (Below.refl _ _).drew (fun hHeld => ?_)
 refine takeH 0 ?_
 refine takeH 1 ?_
 refine takeH 2 ?_
 refine oneL 3 rfl (by kernel_rfl) (fun K hK => ?_)
 go_simp
 refine (hTo.out _ _ (hPR.keep hHeld)).mono ?_; rintro e w2 ⟨rfl, hb⟩
 refine hK.out _ _ (hHeld.trans (hb.mono hHeld.size)) (fun hHeld2 => ?_)
 clear hK K hHeld
 have hHeld := hHeld2
 clear hHeld2
 try simp only [Act.put,sA,sB,sC]
 refine takeH 4 ?_
 refine wpAnyH_done (by kernel_rfl) ?_ _
 have hPR2 := hPR.keep hHeld
 have gG2 := gG1.keep hHeld
 have gM2 := gM1.keep hHeld
 have gA2 := gA1.keep hHeld
 have gF2 := gF1.keep hHeld
 have hB2 := hB1.trans (hHeld.mono hB1.size)
 clear hCF hTo hb hHeld hPR gG1 gM1 gA1 gF1 hB1
 by_cases hcT : T < (c : Int)
 ·have hno := lh (show notedD I L ln c gn = none from by rw [hnd.out, if_pos hcT])
  have hA0 : Boxed w2 (C + 2) 29 (.slice none 0 0) := gA2
  have hF0 : Boxed w2 (C + 3) 4 (.bool false) := gF2
  have a0 := hA0.cell
  have a1 := hA0.frozen
  have f0 := hF0.cell
  have f1 := hF0.frozen
  have e0 := ((hA0.set (.slice none 0 0)).other (B' := C + 3) (by omega) (.bool false)).cell
  have e1 := ((hF0.other (B' := C + 2) (by omega) (.slice none 0 0)).set (.bool false)).cell
  have hBe := (hB2.setCell (p := ⟨C + 2, 0, none⟩) (by simp; omega) (.slice none 0 0)).setCell (p := ⟨C + 3, 0, none⟩) (by simp; omega) (.bool false)
  clear gA2 gF2 gG2 gM2 hA0 hF0 hB2
  go_wp2_with fail
  refine ⟨.tuple #[.slice none 0 0, .bool false], by simp [results, Tryz.f163, go_sem, e0, e1], _, by rw [hno.out]; rfl, by rw [hno.out]; exact OPL.nil _, hBe⟩
 have hcT2 : (c : Int) ≤ T := by omega
 have hZ8 := hZl hcT2
 have hnd2 := lh (show notedD I L ln c gn = (match decL gn Z with
  | none => none
  | some es => if es.all (entIn nn L) = true then some (es.reverse.flatMap entOps) else none) from by rw [hnd.out, if_neg hcT])
 obtain ⟨m0, m1, m2⟩ : w2.cell? ⟨C + 1, 0, none⟩ = some (.int .i64 (s : Nat)) ∧ w2.cell? ⟨C + 1, 1, none⟩ = some (.int .i64 (c : Nat)) ∧ w2.cell? ⟨C + 1, 2, none⟩ = some (.int .u64 (gn : Nat)) := ⟨(row_cell gM2 0).1, (row_cell gM2 1).1, (row_cell gM2 2).1⟩
 clear hnd hcT
 go_wp2_with fail
 refine (hCu.out _ _ hPR2).mono ?_
 rintro e w3 ⟨vK, rfl, hoK, hb3⟩
 have hPK := hoK.pl
 have gG3 := gG2.keep hb3
 have gM3 := gM2.keep hb3
 have gA3 := gA2.keep hb3
 have gF3 := gF2.keep hb3
 have hB3 := hB2.trans (hb3.mono hB2.size)
 clear hCu hb3 hoK gG2 gM2 gA2 gF2 hB2 m0 m1 m2 hPR2
 have hCF := lh (fun w' (hb : Below w3.heap.size w3 w') => show w'.cell? ⟨C + 1, 2, none⟩ = some (.int .u64 (gn : Nat)) ∧ True from ⟨(row_cell (gM3.keep hb) 2).1, trivial⟩)
 have hes := lh (fun es (h : decL gn Z = some es) => decL_bd h)
 rcases hD : decL gn Z with _ | es
 ·have hno := lh (show notedD I L ln c gn = none from by rw [hnd2.out, hD])
  rw [hD] at hDe
  simp only [Option.isSome_none, Option.getD_none] at hDe
  clear hnd2 hD hes
  go_wp2_with fail
  refine wp_region_held_drew (S := (fun w' => Below w3.heap.size w3 w')) (by kernel_rfl) (Below.refl _ _).drew (fun hHeld => ?_)
  refine takeH 0 ?_
  refine takeH 1 ?_
  refine takeH 2 ?_
  refine takeH 3 ?_
  refine oneL 4 rfl (by kernel_rfl) (fun K hK => ?_)
  go_simp
  refine (hGa.out _ _ _ (hKv.out _ (hB3.trans (hHeld.mono hB3.size))) (hPK.keep hHeld)).mono ?_; rintro e w4 ⟨vZ, rfl, hoZ, hb⟩
  refine hK.out _ _ (hHeld.trans (hb.mono hHeld.size)) (fun hHeld2 => ?_)
  clear hK K hHeld
  have hHeld := hHeld2
  clear hHeld2
  try simp only [Act.put,sA,sB,sC]
  refine oneL 5 rfl (by kernel_rfl) (fun K hK => ?_)
  go_simp
  refine (hDe.out _ _ hZ8 hoZ.kl).mono ?_; rintro e w5 ⟨vE, rfl, hEN, hb⟩
  refine hK.out _ _ (hHeld.trans (hb.mono hHeld.size)) (fun hHeld2 => ?_)
  clear hK K hHeld
  have hHeld := hHeld2
  clear hHeld2
  try simp only [Act.put,sA,sB,sC]
  refine takeH 6 ?_
  refine takeH 7 ?_
  refine takeH 8 ?_
  refine takeH 9 ?_
  refine takeH 10 ?_
  refine wpAnyH_done (by kernel_rfl) ?_ _
  have hA0 : Boxed w5 (C + 2) 29 (.slice none 0 0) := gA3.keep hHeld
  have hF0 : Boxed w5 (C + 3) 4 (.bool false) := gF3.keep hHeld
  have hB5 := hB3.trans (hHeld.mono hB3.size)
  have a0 := hA0.cell
  have a1 := hA0.frozen
  have f0 := hF0.cell
  have f1 := hF0.frozen
  have e0 := ((hA0.set (.slice none 0 0)).other (B' := C + 3) (by omega) (.bool false)).cell
  have e1 := ((hF0.other (B' := C + 2) (by omega) (.slice none 0 0)).set (.bool false)).cell
  have hBe := (hB5.setCell (p := ⟨C + 2, 0, none⟩) (by simp; omega) (.slice none 0 0)).setCell (p := ⟨C + 3, 0, none⟩) (by simp; omega) (.bool false)
  clear gA3 gF3 gG3 gM3 hA0 hF0 hB5 hB3 hHeld hoZ hEN hCF hGa hDe
  go_wp2_with fail
  refine ⟨.tuple #[.slice none 0 0, .bool false], by simp [results, Tryz.f163, go_sem, e0, e1], _, by rw [hno.out]; rfl, by rw [hno.out]; exact OPL.nil _, hBe⟩
 obtain ⟨hel, heb⟩ := hes.out _ hD
 have hnd3 := lh (show notedD I L ln c gn = if es.all (entIn nn L) = true then some (es.reverse.flatMap entOps) else none from by rw [hnd2.out, hD])
 rw [hD] at hDe
 simp only [Option.isSome_some, Option.getD_some] at hDe
 clear hnd2 hD hes
 go_wp2_with fail
 refine wp_region_held_drew (S := (fun w' => Below w3.heap.size w3 w')) (by kernel_rfl) (Below.refl _ _).drew (fun hHeld => ?_)
 refine takeH 0 ?_
 refine takeH 1 ?_
 refine takeH 2 ?_
 refine takeH 3 ?_
 refine oneL 4 rfl (by kernel_rfl) (fun K hK => ?_)
 go_simp
 refine (hGa.out _ _ _ (hKv.out _ (hB3.trans (hHeld.mono hB3.size))) (hPK.keep hHeld)).mono ?_; rintro e w4 ⟨vZ, rfl, hoZ, hb⟩
 refine hK.out _ _ (hHeld.trans (hb.mono hHeld.size)) (fun hHeld2 => ?_)
 clear hK K hHeld
 have hHeld := hHeld2
 clear hHeld2
 try simp only [Act.put,sA,sB,sC]
 refine oneL 5 rfl (by kernel_rfl) (fun K hK => ?_)
 go_simp
 refine (hDe.out _ _ hZ8 hoZ.kl).mono ?_; rintro e w5 ⟨vE, rfl, hEN, hb⟩
 refine hK.out _ _ (hHeld.trans (hb.mono hHeld.size)) (fun hHeld2 => ?_)
 clear hK K hHeld
 have hHeld := hHeld2
 clear hHeld2
 try simp only [Act.put,sA,sB,sC]
 refine takeH 6 ?_
 refine takeH 7 ?_
 refine takeH 8 ?_
 refine takeH 9 ?_
 refine takeH 10 ?_
 refine wpAnyH_done (by kernel_rfl) ?_ _
 have gG5 := gG3.keep hHeld
 have gA5 := gA3.keep hHeld
 have gF5 := gF3.keep hHeld
 have hB5 := hB3.trans (hHeld.mono hB3.size)
 clear gA3 gF3 gG3 gM3 hB3 hHeld hoZ hCF hGa hDe hb hKv hPK
 obtain ⟨xs, hE, hKx, hpx⟩ := hEN
 obtain ⟨N, hNx⟩ : ∃ N, xs.length = N := ⟨_, rfl⟩
 obtain ⟨A, cap, rfl, -⟩ := EL.form hE hNx
 go_wp2_with fail
 refine (callsIn_wide.1 (backward_in 3 A N cap _)).mono ?_
 rintro e w' ⟨rfl, rfl⟩
 have bO := (Boxed.new w5 29 (.slice none 0 0)).alloc (.cells #[.slice A N cap] 131)
 have bL := Boxed.new (w5.alloc (.cells #[.slice none 0 0] 29)) 131 (.slice A N cap)
 have hBa : Below w5.heap.size w5 ((w5.alloc (.cells #[.slice none 0 0] 29)).alloc (.cells #[.slice A N cap] 131)) := (bZ w5 _).alloc (by simp) _
 have hsz : ((w5.alloc (.cells #[.slice none 0 0] 29)).alloc (.cells #[.slice A N cap] 131)).heap.size = w5.heap.size + 2 := by simp
 simp only [World.size_alloc] at bO bL
 go_wp2_with fail
 refine (wpIn_wide (n := 4)).1 ?_
 obtain ⟨W0, hW0⟩ : ∃ W0, ((w5.alloc (.cells #[.slice none 0 0] 29)).alloc (.cells #[.slice A N cap] 131)) = W0 := ⟨_, rfl⟩
 rw [hW0] at bO bL hBa hsz ⊢
 clear hW0
 have gG0 := gG5.keep hBa
 have gA0 := gA5.keep hBa
 have gF0 := gF5.keep hBa
 have hfr := gF5.lt
 obtain ⟨B, hBB⟩ : ∃ B, w5.heap.size = B := ⟨_, rfl⟩
 rw [hBB] at bO bL hBa hsz hfr ⊢
 have hall := lh (curO_all xs)
 clear gG5 gA5 gF5
 refine wpIn_rangeFunc_told rfl (by omega) (gf := 199) (lb := #[.pointer (some ⟨B + 1, 0, none⟩)]) rfl trivial (enters_of Tryz.func199 (by kernel_rfl) rfl)
  (bwd_told 3 (by omega) B (B + 1) B N cap A xs hNx (fun x hx => by obtain ⟨A, c, h, _⟩ := hKx x hx; exact ⟨A, _, c, h⟩) (by have := congrArg List.length hpx; rw [List.length_map] at this; omega) W0 (by omega) (ownLt_of bO (fun b q => by simp [Value.ownBlock] at q)) bL (by omega) (fun q => by have := (ownAt_iff bO).1 q; simp [Value.ownBlock] at this) (by omega) (fun w1 hb => hE.keep (by rw [hBB]; exact hBa.trans hb)))
  kp_t (kp_b (by omega) (by omega)) (Below.refl _ _) (fun _ => rfl)
  (fun pre W => ∃ v0, OI B B w5 (curO pre) W v0 ∧ (∀ y ∈ pre, entIn nn L (px y.2) = true) ∧ (curO pre).length ≤ 800 * pre.length ∧ HB W C #[.int .i64 (nn : Nat), .int .i64 (L : Nat)] 37 ∧ HB W (C + 2) #[.slice none 0 0] 29 ∧ HB W (C + 3) #[.bool false] 4)
  (fun c pre W => c = .ret ∧ (∃ y ∈ pre, entIn nn L (px y.2) = false) ∧ HB W (C + 2) #[.slice none 0 0] 29 ∧ HB W (C + 3) #[.bool false] 4 ∧ Below w.heap.size w W)
  (fun s A1 B1 row hs hg hr => by
    obtain ⟨v0, h1, h2, h3, h4, h5, h6⟩ := hs
    exact ⟨v0, h1.walk hg (ownFrom_below (β := Unit) (n₀ := B) (by omega) (by omega) () A1 B1 row h1.B hg hr) (fun r e => (hr r e).2), h2, h3, h4.walk hg (fun r e => (hr r e).2), h5.walk hg (fun r e => (hr r e).2), h6.walk hg (fun r e => (hr r e).2)⟩)
  (fun c s A1 B1 row hs hg hr => by
    obtain ⟨h1, h2, h3, h4, h5⟩ := hs
    exact ⟨h1, h2, h3.walk hg (fun r e => (hr r e).2), h4.walk hg (fun r e => (hr r e).2), ownFrom_below (β := Unit) (Nat.le_refl w.heap.size) (by omega) () A1 B1 row h5 hg hr⟩)
  ⟨_, ⟨bO, OwnE.nil _ _ _ _ _, hBa⟩, (fun y hy => by cases hy), Nat.zero_le _, gG0, gA0, gF0⟩
  (fun y a' W => ∃ Bx, Bk W Bx (.int .i64 y.2.1) y.2.2.1 ∧ y.2 ∈ xs ∧ a' = { tmps := #[v, .agg #[.int .i64 (nn : Nat), .int .i64 (L : Nat)], .int .i64 (ln : Nat), .agg #[.int .i64 (s : Nat), .int .i64 (c : Nat), .int .u64 (gn : Nat)], undef, .pointer (some ⟨C, 0, none⟩), undef, .pointer (some ⟨C + 1, 0, none⟩), .pointer (some ⟨C + 2, 0, none⟩), .pointer (some ⟨C + 3, 0, none⟩), vR, vK, .slice A N cap, .bool true, .pointer (some ⟨B, 0, none⟩), undef, .pointer (some ⟨Bx, 0, none⟩), undef, undef, v, .agg #[.int .i64 (nn : Nat), .int .i64 (L : Nat)], .int .i64 (ln : Nat), vR, .pointer (some ⟨C + 1, 1, none⟩), .int .i64 (c : Nat), vR, .int .i64 T, .bool (decide (T < (c : Int))), vR, .pointer (some ⟨C + 1, 1, none⟩), .int .i64 (c : Nat), .agg #[.int .i64 0, .int .i64 (c : Nat)], vK, .tuple #[.slice A N cap, .bool true], .pointer (some ⟨C + 1, 2, none⟩), .int .u64 (gn : Nat), v, vK, vZ, .tuple #[.slice A N cap, .bool true], .slice A N cap, .bool true, .bool true, .bool (!true), .slice A N cap, .func (.func 199) #[] #[.pointer (some ⟨B + 1, 0, none⟩)], .int .i64 y.1, .agg #[.int .i64 y.2.1, y.2.2.1], undef, undef, undef, undef, undef, undef, undef, undef, undef, undef, undef, undef, undef, undef, undef, undef, undef, undef, undef, undef, undef, undef, undef, undef, undef, undef, undef, undef, undef, undef, undef, undef, undef, undef, undef, undef], defers := [] })
  (fun y a' _ X Y row hs hg hr => by
    obtain ⟨Bx, h2, h4, h3⟩ := hs
    refine ⟨Bx, (hg.block Bx h2.lt (fun e => ?_)).trans h2, h4, h3⟩
    obtain ⟨_, o, ho, hc⟩ := hr Bx e.symm
    rw [show X.heap[Bx]? = _ from h2] at ho
    cases ho; simp [Obj.isCells] at hc)
  ?assign ?body ?done ?stop
 case assign =>
  rintro l pre y W K ⟨v0, hOI, hal, hle, hG, hA, hF⟩ hTT hK2
  have hbo : B < W.heap.size := hOI.b.lt
  have hbb := bZ W (.cells #[.int .i64 y.2.1, y.2.2.1] 136)
  have hOI2 := hOI.keep (by omega) hbb
  have hG2 := hG.keep hbb
  have hA2 := hA.keep hbb
  have hF2 := hF.keep hbb
  have hbx := Bk.new W (.int .i64 y.2.1) y.2.2.1
  obtain ⟨yi, ya, yv, yl⟩ := y
  obtain ⟨A5, c5, hyv, _⟩ := hKx _ hTT
  simp only [] at hyv
  subst hyv
  clear hbb hOI hG hA hF
  dsimp only at *
  gi_wp2
  exact hK2 _ _ ((KeepsOthers.alloc _ _).from _) (kp_new (by omega) hbo) ⟨_, hOI2, hal, hle, hG2, hA2, hF2⟩ ⟨W.heap.size, hbx, hTT, rfl⟩
 case body =>
  rintro l pre y a' W ⟨v0, hOI, hal, hle, hG, hA, hF⟩ ⟨Bx, bX, hTT, rfl⟩ hlt
  obtain ⟨yi, ya, yv, os⟩ := y
  have hKo := hKx _ hTT
  obtain ⟨k1, k2, k3, k4⟩ := heb _ (by rw [← hpx]; exact List.mem_map_of_mem hTT)
  simp only [px] at k1 k2 k3 k4
  obtain ⟨n5, hn5⟩ : ∃ n5, os.length = n5 := ⟨_, rfl⟩
  obtain ⟨A5, c5, hyv, hC5⟩ := hKo.form hn5
  simp only [] at hyv
  subst hyv
  dsimp only at *
  obtain ⟨x0, x1⟩ := bX.c2
  obtain ⟨g0, g1⟩ := hG.c2
  gi_wp2
  refine ⟨trivial, (callsIn_wide.2 (hIc.out ya W)).mono ?_⟩
  rintro e w6 ⟨rfl, hb6⟩
  have hOI6 := hOI.keep (by omega) hb6
  have bX6 := bX.keep hb6
  have hG6 := hG.keep hb6
  have hA6 := hA.keep hb6
  have hF6 := hF.keep hb6
  have hk6 := ko_below hb6
  have hkp6 : Kp B B W w6 := kp_of hb6 (by have := hOI.B.size; omega) hOI.b.lt
  clear x0 x1 g0 g1 hOI hG hA hF bX hb6
  obtain ⟨x0, x1⟩ := bX6.c2
  obtain ⟨g0, g1⟩ := hG6.c2
  have hin := lh (show entIn nn L (px (ya, .slice A5 n5 c5, os)) = (inCh nn L ya && inCh nn L (ya + (n5 : Int) - 1)) from by unfold entIn px; simp only []; rw [hn5])
  have hIc2 := hIc.out (ya + (n5 : Int) - 1)
  obtain ⟨r1, hr1⟩ : ∃ r, inCh nn L ya = r := ⟨_, rfl⟩
  rw [hr1] at hin ⊢
  cases r1 with
  | false =>
    have hno := lh (show entIn nn L (px (ya, .slice A5 n5 c5, os)) = false from by rw [hin.out]; rfl)
    clear hIc2 hr1 hin
    have hA9 : Boxed w6 (C + 2) 29 (.slice none 0 0) := hA6
    have hF9 : Boxed w6 (C + 3) 4 (.bool false) := hF6
    have a0 := hA9.cell
    have a1 := hA9.frozen
    have f0 := hF9.cell
    have f1 := hF9.frozen
    have e0 : HB ((w6.setCell ⟨C + 2, 0, none⟩ (.slice none 0 0)).setCell ⟨C + 3, 0, none⟩ (.bool false)) (C + 2) #[.slice none 0 0] 29 := (hA9.set (.slice none 0 0)).other (B' := C + 3) (by omega) (.bool false)
    have e1 : HB ((w6.setCell ⟨C + 2, 0, none⟩ (.slice none 0 0)).setCell ⟨C + 3, 0, none⟩ (.bool false)) (C + 3) #[.bool false] 4 := (hF9.other (B' := C + 2) (by omega) (.slice none 0 0)).set (.bool false)
    have hBe := ((hB5.trans (hOI6.B.mono (by have := hB5.size; omega))).setCell (p := ⟨C + 2, 0, none⟩) (by simp; omega) (.slice none 0 0)).setCell (p := ⟨C + 3, 0, none⟩) (by simp; omega) (.bool false)
    clear hA9 hF9 hA6 hF6 hOI6 hG6 hkp6 hIc
    gi_wp2
    refine ⟨trivial, ?_⟩
    gi_wp2
    exact ⟨((hk6.trans (KeepsOthers.setCell _ _ _)).trans (KeepsOthers.setCell _ _ _)).from _, rfl, ⟨_, List.mem_append_right _ (List.mem_singleton.2 rfl), hno.out⟩, e0, e1, hBe⟩
  | true =>
    obtain ⟨r2, hr2⟩ : ∃ r, inCh nn L (ya + (n5 : Int) - 1) = r := ⟨_, rfl⟩
    rw [hr2] at hin hIc2
    have hw2 : IntKind.i64.wrap (ya + (n5 : Int)) = ya + (n5 : Int) := by rw [IntKind.wrap_i64]; omega
    have hw3 : IntKind.i64.wrap (ya + (n5 : Int) - 1) = ya + (n5 : Int) - 1 := by rw [IntKind.wrap_i64]; omega
    clear hr1 hr2
    gi_wp2
    refine ⟨trivial, (callsIn_wide.2 (hIc2 w6)).mono ?_⟩
    rintro e w7 ⟨rfl, hb7⟩
    have hOI7 := hOI6.keep (by omega) hb7
    have bX7 := bX6.keep hb7
    have hG7 := hG6.keep hb7
    have hA7 := hA6.keep hb7
    have hF7 := hF6.keep hb7
    have hk7 := hk6.trans (ko_below hb7)
    have hkp7 : Kp B B W w7 := kp_t hkp6 (kp_of hb7 (by have := hOI6.B.size; omega) hOI6.b.lt)
    clear x0 x1 g0 g1 hOI6 hG6 hA6 hF6 bX6 hb7 hw2 hw3 hIc2 hk6 hkp6
    cases r2 with
    | false =>
      have hno := lh (show entIn nn L (px (ya, .slice A5 n5 c5, os)) = false from by rw [hin.out]; rfl)
      clear hin
      have hA9 : Boxed w7 (C + 2) 29 (.slice none 0 0) := hA7
      have hF9 : Boxed w7 (C + 3) 4 (.bool false) := hF7
      have a0 := hA9.cell
      have a1 := hA9.frozen
      have f0 := hF9.cell
      have f1 := hF9.frozen
      have e0 : HB ((w7.setCell ⟨C + 2, 0, none⟩ (.slice none 0 0)).setCell ⟨C + 3, 0, none⟩ (.bool false)) (C + 2) #[.slice none 0 0] 29 := (hA9.set (.slice none 0 0)).other (B' := C + 3) (by omega) (.bool false)
      have e1 : HB ((w7.setCell ⟨C + 2, 0, none⟩ (.slice none 0 0)).setCell ⟨C + 3, 0, none⟩ (.bool false)) (C + 3) #[.bool false] 4 := (hF9.other (B' := C + 2) (by omega) (.slice none 0 0)).set (.bool false)
      have hBe := ((hB5.trans (hOI7.B.mono (by have := hB5.size; omega))).setCell (p := ⟨C + 2, 0, none⟩) (by simp; omega) (.slice none 0 0)).setCell (p := ⟨C + 3, 0, none⟩) (by simp; omega) (.bool false)
      clear hA9 hF9 hA7 hF7 hOI7 hG7 hkp7 hIc
      gi_wp2
      exact ⟨((hk7.trans (KeepsOthers.setCell _ _ _)).trans (KeepsOthers.setCell _ _ _)).from _, rfl, ⟨_, List.mem_append_right _ (List.mem_singleton.2 rfl), hno.out⟩, e0, e1, hBe⟩
    | true =>
      have hyes := lh (show entIn nn L (px (ya, .slice A5 n5 c5, os)) = true from by rw [hin.out]; rfl)
      have hsn := lh (curO_snoc pre (yi, ya, .slice A5 n5 c5, os))
      have hpt := lh (fun k (h : k < n5) => entOps_take (px (ya, .slice A5 n5 c5, os)) k (by show k < os.length; omega))
      have hel5 := entOps_len (px (ya, .slice A5 n5 c5, os))
      have hcl5 : (entOps (px (ya, .slice A5 n5 c5, os))).length = n5 := hel5.trans hn5
      obtain ⟨eo, heo⟩ : ∃ eo, entOps (px (ya, .slice A5 n5 c5, os)) = eo := ⟨_, rfl⟩
      have hpt2 := lh (fun k (h : k < n5) => show eo.take (k + 1) = eo.take k ++ [((0 : Int), ya + (k : Int), os.getD k 0)] from by rw [← heo]; exact hpt.out k h)
      simp only [] at hsn
      rw [heo] at hsn hcl5
      have hz : curO pre ++ eo.take 0 = curO pre := by simp
      rw [← hz] at hOI7
      replace hz := lh hz
      have hfull := lh (show eo.take n5 = eo from List.take_of_length_le (by omega))
      replace heo := lh heo
      replace hcl5 := lh hcl5
      replace hel5 := lh hel5
      obtain ⟨cu, hcu⟩ : ∃ cu, curO pre = cu := ⟨_, rfl⟩
      rw [hcu] at hOI7 hsn hle
      have hle2 := lh hle
      replace hcu := lh hcu
      replace hC5 := lh hC5
      replace hn5 := lh hn5
      have hn58 : n5 ≤ 800 := by have := hn5.out; omega
      have hpl : pre.length ≤ 799 := by have := congrArg List.length hpx; rw [List.length_map] at this; omega
      obtain ⟨x0, x1⟩ := bX7.c2
      clear hin hle hpt hKo
      gi_wp2
      clear x0 x1
      gi_loopw [68] (fun x wr => ∃ (k : Nat) (v1 : Value), k ≤ n5 ∧ x = .int .i64 (k : Int) ∧ OI B B w5 (cu ++ eo.take k) wr v1 ∧ Bk wr Bx (.int .i64 ya) (.slice A5 n5 c5) ∧ HB wr C #[.int .i64 (nn : Nat), .int .i64 (L : Nat)] 37 ∧ HB wr (C + 2) #[.slice none 0 0] 29 ∧ HB wr (C + 3) #[.bool false] 4 ∧ KeepsOthers W wr ∧ Kp B B W wr)
       (fun x wr => n5 + 1 - (intOf x).toNat)
      case atStart => exact ⟨0, _, Nat.zero_le _, rfl, hOI7, bX7, hG7, hA7, hF7, hk7, hkp7⟩
      obtain ⟨k, v1, hk, rfl, hOr, bXr, hGr, hAr, hFr, hko, hkp⟩ := hrel
      clear hOI7 bX7 hG7 hA7 hF7 hk7 hkp7
      by_cases hlt2 : k < n5
      rotate_left
      ·obtain rfl : k = n5 := by omega
       rw [hfull.out, ← hsn.out] at hOr
       gi_wp2
       exact ⟨hko.from _, hkp, _, hOr, fun y hy => by
        rcases List.mem_append.1 hy with hy | hy
        ·exact hal y hy
        rw [List.mem_singleton] at hy; rw [hy]; exact hyes.out, by rw [hsn.out, List.length_append, List.length_append, hcl5.out]; have := hle2.out; simp; omega, hGr, hAr, hFr⟩
      obtain ⟨g5, o5, rfl, hcap5, hg5, c0⟩ := hC5.out wr k (by rw [hBB]; exact hOr.B) hlt2
      have hlt3 : (k : Int) < (n5 : Int) := by omega
      have hp1 := lh (hpt2.out k hlt2)
      generalize os.getD k 0 = o at *
      obtain ⟨x0, x1⟩ := bXr.c2
      have hbc := hOr.b.cell
      have hw1 : IntKind.i64.wrap (ya + (k : Int)) = ya + (k : Int) := by rw [IntKind.wrap_i64]; omega
      have hBx : Bx ≠ B := fun q => by
       have q2 := hOr.b
       rw [← q] at q2
       have q3 := (show wr.heap[Bx]? = _ from bXr).symm.trans q2
       simp at q3
      obtain ⟨g8, m8, c8, w8, hrun, hbv, hO8, hk8, hkp8, hoth⟩ := hOr.add (Nat.le_refl _) (by omega) (by rw [List.length_append, List.length_take]; have := hle2.out; omega) 0 (ya + (k : Int)) o
      have bX8 : Bk (w8.setCell ⟨B, 0, none⟩ (.slice (some ⟨g8, 0, none⟩) m8 c8)) Bx (.int .i64 ya) (.slice (some ⟨g5, o5, none⟩) n5 c5) := hoth _ _ _ bXr hBx (by decide)
      have hG8 := hoth _ _ _ hGr (by omega) (by decide)
      have hA8 := hoth _ _ _ hAr (by omega) (by decide)
      have hF8 := hoth _ _ _ hFr (by omega) (by decide)
      have hko8 := hko.trans hk8
      have hkp9 := kp_t hkp hkp8
      have hbd := hbv.cell
      have hbf := hbv.frozen
      clear hOr bXr hGr hAr hFr hko hkp hk8 hkp8 hoth hbv
      gi_wp2_with (gi_at_builtin; refine wpListIn_append_run rfl _ _ 29 rfl _ _ _ rfl rfl hrun ?_)
      go_roundw
      case rel => exact ⟨k + 1, _, by omega, by go_num, by rw [hp1.out, ← List.append_assoc]; exact hO8, bX8, hG8, hA8, hF8, hko8, hkp9⟩
      first | (simp [intOf]; done) | (simp [intOf]; omega)
 case done =>
  rintro D ys W hD rfl ⟨v0, hOI, hal, hle, hG, hA, hF⟩ hKD
  have hyes := lh (show notedD I L ln c gn = some (curO (bk xs 0)) from by rw [hnd3.out, ← hpx, if_pos (all_bk hal), hall.out])
  obtain ⟨A0, n0, c0, rfl⟩ : ∃ A n c, v0 = .slice A n c := by
   rcases hOI.o.2 with ⟨q, _⟩ | ⟨g, cap, cur, q, _⟩
   ·exact ⟨_, _, _, q⟩
   exact ⟨_, _, _, q⟩
  obtain ⟨v0, hv0⟩ : ∃ v0, (Value.slice A0 n0 c0) = v0 := ⟨_, rfl⟩
  have hA9 : Boxed W (C + 2) 29 (.slice none 0 0) := hA
  have hF9 : Boxed W (C + 3) 4 (.bool false) := hF
  rw [hv0] at hOI
  have a0 := hA9.cell
  have a1 := hA9.frozen
  have f0 := hF9.cell
  have f1 := hF9.frozen
  have b0 := hOI.b.cell
  have e0 := (hA9.set v0).other (B' := C + 3) (by omega) (.bool true)
  have e1 := (hF9.other (B' := C + 2) (by omega) v0).set (.bool true)
  have hKD2 := ((KeepsOthers.setCell W ⟨C + 2, 0, none⟩ v0).trans (KeepsOthers.setCell _ ⟨C + 3, 0, none⟩ (.bool true))).same D _ hKD rfl
  have hown : ∀ b, v0.ownBlock = some b → B ≤ b := fun b q => (hOI.o.lt b q).1
  have ho1 := hOI.o.kept (grownBy_setCell' W (C + 2) v0) (.inr (fun q => by have := hown _ q; omega))
  have ho2 := ho1.kept (grownBy_setCell' _ (C + 3) (.bool true)) (.inr (fun q => by have := hown _ q; omega))
  have ho3 := ho2.walk (grownBy_putObj' _ D (.deferred none)) (fun r e => by cases e; exact ⟨_, hKD2, rfl⟩)
  have e2 := (bx_walk e0 (grownBy_putObj' _ D (.deferred none)) (fun r e => by cases e; exact ⟨_, hKD2, rfl⟩)).cell
  have e3 := (bx_walk e1 (grownBy_putObj' _ D (.deferred none)) (fun r e => by cases e; exact ⟨_, hKD2, rfl⟩)).cell
  have hBe := ((hB5.trans (hOI.B.mono (by have := hB5.size; omega))).setCell (p := ⟨C + 2, 0, none⟩) (by simp; omega) v0).setCell (p := ⟨C + 3, 0, none⟩) (by simp; omega) (.bool true)
  have hBf := hBe.trans (belowK_b (w := w) (Nat.le_refl _) _ D _ (.deferred none) (by omega) hKD2 rfl rfl)
  subst hv0
  clear hOI hal hA hF hA9 hF9 e0 e1 ho1 ho2 hBe
  go_wp2_with fail
  refine ⟨by simp, .inl ⟨_, _, rfl, run_takeDeferred hKD2, ?_⟩⟩
  refine ⟨.tuple #[.slice A0 n0 c0, .bool true], by simp [results, Tryz.f163, go_sem, e2, e3], .slice A0 n0 c0, by rw [hyes.out]; rfl, by rw [hyes.out]; exact ho3.el opE_len, hBf⟩
 rintro D cc pre W hD hpre ⟨rfl, hex, hA, hF, hB9⟩ hKD
 have hno := lh (show notedD I L ln c gn = none from by rw [hnd3.out, ← hpx, if_neg (not_bk hpre hex)])
 have e2 := (bx_walk (show Boxed W (C + 2) 29 (.slice none 0 0) from hA) (grownBy_putObj' _ D (.deferred none)) (fun r e => by cases e; exact ⟨_, hKD, rfl⟩)).cell
 have e3 := (bx_walk (show Boxed W (C + 3) 4 (.bool false) from hF) (grownBy_putObj' _ D (.deferred none)) (fun r e => by cases e; exact ⟨_, hKD, rfl⟩)).cell
 have hBf := hB9.trans (belowK_b (w := w) (Nat.le_refl _) _ D _ (.deferred none) (by omega) hKD rfl rfl)
 clear hpre hex hA hF hB9
 gi_wp2
 refine ⟨by simp, .inl ⟨_, _, rfl, run_takeDeferred hKD, ?_⟩⟩
 refine ⟨.tuple #[.slice none 0 0, .bool false], by simp [results, Tryz.f163, go_sem, e2, e3], .slice none 0 0, by rw [hno.out]; rfl, by rw [hno.out]; exact OPL.nil _, hBf⟩
end Go.Proofs.YtkkbngcgphlikaaGreatDoor
end
section
namespace Go.Proofs.YtkkbngcgphlikaaGreatDoor
theorem ext_getD_md {a b : List Nat} (h : a.length = b.length) (hi : ∀ i, i < a.length → a.getD i 0 = b.getD i 0) : a = b := by
 apply List.ext_getElem h
 intro i h1 h2
 have := hi i h1
 rwa [List.getD_eq_getElem?_getD, List.getD_eq_getElem?_getD, List.getElem?_eq_getElem h1, List.getElem?_eq_getElem h2] at this
theorem getD_set_md (l : List Nat) (i a p : Nat) : (l.set i a).getD p 0 = if i = p ∧ p < l.length then a else l.getD p 0 := by
 rw [List.getD_eq_getElem?_getD, List.getD_eq_getElem?_getD, List.getElem?_set]
 by_cases h : i = p
 ·rw [if_pos h]
  by_cases h2 : p < l.length
  ·rw [if_pos (h ▸ h2), if_pos ⟨h, h2⟩]; rfl
  rw [if_neg (by omega), if_neg (fun q => h2 q.2), List.getElem?_eq_none (by omega)]
 rw [if_neg h, if_neg (fun q => h q.1)]
theorem apOne_other (I : List Nat) (o : Ox) (p : Nat) (h : o.2.1 ≠ (p : Int)) : (apOne I o).getD p 0 = I.getD p 0 := by
 unfold apOne
 split
 ·rw [getD_set_md, if_neg (fun q => h (by omega))]
 rfl
theorem apply_other (p : Nat) : ∀ (l : List Ox) (I : List Nat), (∀ o ∈ l, o.2.1 ≠ (p : Int)) → (applyL I l).getD p 0 = I.getD p 0
 | [], I, _ => rfl
 | o :: l, I, h => by
   have : applyL I (o :: l) = applyL (apOne I o) l := rfl
   rw [this, apply_other p l _ (fun x hx => h x (List.mem_cons_of_mem _ hx)), apOne_other I o p (h o (List.mem_cons_self))]
theorem idlesL_get (I : List Nat) (p : Nat) (hp : p < I.length) : ∀ k, (idlesL I k).getD p 0 = if 10 ≤ p ∧ p < 10 + k then endN (I.getD p 0) else I.getD p 0
 | 0 => by rw [idlesL, if_neg (by omega)]
 | k + 1 => by
   rw [idlesL, getD_set_md, idlesL_len, idlesL_get I p hp k]
   by_cases h : 10 + k = p
   ·subst h
    rw [if_pos ⟨rfl, hp⟩, if_pos ⟨by omega, by omega⟩, idlesL_get I (10 + k) hp k, if_neg (by omega)]
   ·rw [if_neg (fun q => h q.1)]
    by_cases h2 : 10 ≤ p ∧ p < 10 + k
    ·rw [if_pos h2, if_pos (by omega)]
    ·rw [if_neg h2, if_neg (by omega)]
theorem clrL_get (I : List Nat) (L p : Nat) (hp : p < I.length) : ∀ k, (clrL I L k).getD p 0 = if 10 + 73 * L ≤ p ∧ p < 10 + 73 * L + k then noLog (I.getD p 0) else I.getD p 0
 | 0 => by rw [clrL, if_neg (by omega)]
 | k + 1 => by
   rw [clrL, getD_set_md, clrL_len, clrL_get I L p hp k]
   by_cases h : 10 + 73 * L + k = p
   ·subst h
    rw [if_pos ⟨rfl, hp⟩, if_pos ⟨by omega, by omega⟩, clrL_get I L _ hp k, if_neg (by omega)]
   ·rw [if_neg (fun q => h q.1)]
    by_cases h2 : 10 + 73 * L ≤ p ∧ p < 10 + 73 * L + k
    ·rw [if_pos h2, if_pos (by omega)]
    ·rw [if_neg h2, if_neg (by omega)]
theorem restL_get (I : List Nat) (L p : Nat) (hp : p < I.length) : (restL I L).getD p 0 = if 10 + 73 * L ≤ p ∧ p < 10 + 73 * L + gNat I.length L then noLog (I.getD p 0) else if 10 ≤ p ∧ p < 10 + L then endN (I.getD p 0) else I.getD p 0 := by
 unfold restL
 rw [clrL_get _ _ _ (by rw [idlesL_len]; exact hp), idlesL_get I p hp]
 by_cases h : 10 + 73 * L ≤ p ∧ p < 10 + 73 * L + gNat I.length L
 ·rw [if_pos h, if_pos h, if_neg (by omega)]
 rw [if_neg h, if_neg h]
theorem take_getD (I : List Nat) (n i : Nat) (h : i < n) : (I.take n).getD i 0 = I.getD i 0 := by
 rw [List.getD_eq_getElem?_getD, List.getD_eq_getElem?_getD, List.getElem?_take, if_pos h]
end Go.Proofs.YtkkbngcgphlikaaGreatDoor
end
