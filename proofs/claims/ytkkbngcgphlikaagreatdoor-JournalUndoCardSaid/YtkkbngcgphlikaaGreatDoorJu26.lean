/-
  Part of the proof of JournalUndo.
-/
import Derived.Test.YtkkbngcgphlikaaGreatDoorJu18
import Derived.Deep.CutBlock
import Derived.Test.YtkkbngcgphlikaaGreatDoorJu0
set_option maxRecDepth 10000
set_option maxHeartbeats 4000000
set_option linter.unusedVariables false
set_option linter.unusedSimpArgs false
namespace Go.Proofs.YtkkbngcgphlikaaGreatDoor
open Go.RowKit Go.ChangeShapes Go.WideShapes Go.Deep
theorem dec_no (v : Value) (ws : List Nat) (k : Nat) (w : World) (hv : KL .u64 w v ws) (hW : WL ws) (hlen : ws.length ≤ 900) (hk : k ≤ 19) (hkl : 2 * k + 1 ≤ ws.length) (hne : ws.getD (2 * k) 0 = moreN 0 (ws.take (2 * k))) (hd : decB ws k = false) :
 Calls Tryz.prog 190 #[v, .int .i64 (k : Nat)] w fun e w' => e = .returned (.tuple #[.slice none 0 0, .bool false]) ∧ Below w.heap.size w w' := by
 have hX := lh (fun (h : ∀ i, i < k → fineB ws i = true) => show False from by have := decB_of hne h; rw [hd] at this; cases this)
 clear hd
 obtain ⟨t1, t2, t3⟩ := take_facts hkl
 obtain ⟨n, hn⟩ : ∃ n, ws.length = n := ⟨_, rfl⟩
 obtain ⟨A, cap, rfl, hC⟩ := hv.form hn
 obtain ⟨g, off, rfl, hcap, hg, _⟩ := hC w 0 (Below.refl _ _) (by omega)
 have hO := open_yes_rd (ws.take (2 * k + 1)) (2 * k) g off cap w (fun x hx => hW x (List.mem_of_mem_take hx)) (by omega) t1 (by omega) hg (lh (fun i hi => by
  obtain ⟨g', off', he, _, _, hc⟩ := hC w i (Below.refl _ _) (by omega)
  cases he
  rw [hc, List.getD_eq_getElem?_getD, List.getD_eq_getElem?_getD, List.getElem?_take_of_lt hi])) (by rw [t2, t3]; exact hne)
 rw [t3] at hO
 replace hO := lh hO
 have htl : (ws.take (2 * k)).length = 2 * k := by rw [List.length_take]; omega
 have htg := lh (fun i (hi : i < 2 * k) => show (ws.take (2 * k)).getD i 0 = ws.getD i 0 from by rw [List.getD_eq_getElem?_getD, List.getD_eq_getElem?_getD, List.getElem?_take_of_lt hi])
 have hWa := lh (fun i (hi : i < n) => hW.at i (by omega))
 have hSu := lh (fun i => opsN_succ ws i)
 have hLn := lh (fun i => opsN_len ws i)
 have hWo := lh (fun i h => wordOp_at ws i h)
 have q1 : (k : Int) ≤ 19 := by omega
 have q2 : 2 * (k : Int) + 1 ≤ (n : Int) := by omega
 have q3 := lh (fun w => run_slice_to (P := Tryz.prog) (ty := 25) Tryz.underlying25 (info_parts infoU64).choose_spec.1 (some ⟨g, off, none⟩) n cap (2 * k + 1) (by omega) w)
 have q4 : ((2 * k + 1 : Nat) : Int) = 2 * (k : Int) + 1 := by omega
 rw [q4] at q3
 have q5 := q3.out
 have hkn : 2 * k + 1 ≤ n := by omega
 replace hn := lh hn
 clear hv hC hne t1 t2 t3 q3 q4 hW hlen hkl
 obtain ⟨i0, hi, hz0, hz1, hz2⟩ := info_parts infoOp
 go_enter Tryz.func190, Tryz.ntmps190
 go_wp2_with fail
 refine hO.out.mono ?_
 rintro e w1 ⟨v1, rfl, hs1, hb1⟩
 obtain ⟨A1, c1, rfl, hC1⟩ := hs1.kl.form htl
 clear hO hs1 q5
 go_wp2_with (at_make; refine wpList_make_own _ rfl _ _ 29 rfl w1.heap.size 107 i0 (.agg #[.int .i64 0, .int .i64 0, .int .u64 0]) 3 Tryz.underlying29 hi hz0 hz1 .i64 .i64 _ k rfl rfl rfl (by rw [hz2]; omega) (by unfold maxLen; omega) (Nat.le_refl _) ?_; intro w2 hown hgr)
 have hs1 := hb1.size
 have hB2 : Below w.heap.size w w2 := hb1.grown hgr hb1.size (by simp)
 have hB12 : Below w1.heap.size w1 w2 := (Below.refl _ _).grown hgr (Nat.le_refl _) (by simp)
 have hO2 : OwnE 107 3 opE w2 w1.heap.size (.slice (some ⟨w1.heap.size, 0, none⟩) 0 k) [] := hown
 clear hown hgr
 replace htl := lh htl
 replace hC1 := lh hC1
 go_wp2_with fail
 go_loopw [40, 8] (fun i l wr => ∃ (j : Nat) (J : List Ox), j ≤ k ∧ i = .int .i64 j ∧ Hid (J = opsN ws j) ∧ Hid (∀ i, i < j → fineB ws i = true) ∧ OwnE 107 3 opE wr w1.heap.size l J ∧ Below w.heap.size w wr ∧ Below w1.heap.size w1 wr) (fun i _ _ => k + 1 - (intOf i).toNat)
 case atStart => exact ⟨0, [], Nat.zero_le _, rfl, rfl, (fun i hi => by omega), hO2, hB2, hB12⟩
 clear hO2 hB2 hB12
 obtain ⟨j, J, hj, rfl, hJ, hF, hown, hB, hBb⟩ := hrel
 by_cases hlt : j < k
 rotate_left
 ·exact absurd (hX.out (fun i hi => hF.out i (by omega))) id
 obtain ⟨ga, oa, rfl, hca, hga, d0⟩ := hC1.out wr (2 * j) hBb (by omega)
 obtain ⟨gb, ob, he, _, _, d1⟩ := hC1.out wr (2 * j + 1) hBb (by omega)
 simp only [Option.some.injEq, Addr.mk.injEq, and_true] at he
 obtain ⟨rfl, rfl⟩ := he
 rw [htg.out _ (by omega)] at d0 d1
 have hlt' : (j : Int) < (k : Int) := by omega
 have hx := hWa.out (2 * j) (by omega)
 have hJl : J.length = j := by rw [hJ.out]; exact hLn.out j
 have hsu := hSu.out j
 rw [← hJ.out] at hsu
 have hWo1 := hWo.out j hx
 have hfd : fineB ws j = (!wrongB (opAt ws j) && decide (ws.getD (2 * j) 0 < 4194304)) := rfl
 have hoe : opAt ws j = (((ws.getD (2 * j) 0 % 4 : Nat) : Int), ((ws.getD (2 * j) 0 / 4 % 1048576 : Nat) : Int), ws.getD (2 * j + 1) 0) := rfl
 obtain ⟨fb, hfb⟩ : ∃ b, fineB ws j = b := ⟨_, rfl⟩
 have hCo := lh (fun (h : fb = true) i (hi : i < j + 1) => show fineB ws i = true from by
  by_cases e : i = j
  ·subst e; rw [hfb]; exact h
  exact hF.out i (by omega))
 rw [hfb] at hfd
 have hG1 := lh (fun w => get_k (ws.getD (2 * j) 0) w hx)
 have hG2 := lh (fun w => get_a (ws.getD (2 * j) 0) w hx)
 have hb1' : ws.getD (2 * j) 0 % 4 < 4 := Nat.mod_lt _ (by decide)
 have hb2' : ws.getD (2 * j) 0 / 4 % 1048576 < 1048576 := Nat.mod_lt _ (by decide)
 generalize opAt ws j = o at *
 generalize ws.getD (2 * j) 0 = x at *
 generalize ws.getD (2 * j + 1) 0 = y at *
 generalize x % 4 = kk at *
 generalize x / 4 % 1048576 = aa at *
 have hWr := fun w => wrong_any o w
 have hFs := fun w (h : wrongB o = false) => first_any_rd o w h
 unfold opV at hWr hFs
 rw [hoe] at hWr hFs
 simp only [] at hWr hFs
 rw [← hoe] at hWr hFs
 have hWo2 := lh hWo1
 have hsu2 := lh hsu
 have hoe2 := lh hoe
 replace hfd := lh hfd
 clear hWo1 hsu hoe hfb
 have i1 : IntKind.i64.wrap (2 * (j : Int)) = 2 * (j : Int) := by rw [IntKind.wrap_i64]; omega
 have i2 : IntKind.i64.wrap (2 * (j : Int) + 1) = 2 * (j : Int) + 1 := by rw [IntKind.wrap_i64]; omega
 have i3 : (2 * (j : Int) + 1).toNat = 2 * j + 1 := by omega
 have i4 : 0 ≤ 2 * (j : Int) + 1 := by omega
 have i5 : 2 * (j : Int) + 1 < 2 * (k : Int) := by omega
 have i6 : IntKind.i64.wrap ((kk : Nat) : Int) = (kk : Int) := by rw [IntKind.wrap_i64]; omega
 have i7 : IntKind.i64.wrap ((aa : Nat) : Int) = (aa : Int) := by rw [IntKind.wrap_i64]; omega
 replace hWr := lh hWr
 replace hFs := lh hFs
 go_upto_region 11 with fail
 go_cut [11] from 41 to 73 (fun s11 wx => s11 = .pointer (some ⟨wr.heap.size, 0, none⟩) ∧ wx = (wr.alloc (.cells #[.int .i64 (kk : Int), .int .i64 (aa : Int), .int .u64 (y : Nat)] (107 : Nat))).drew)
 case first =>
  refine wp_region_tail (S := (fun w' => w'.cell? ⟨ga, oa + (2 * j + 1), none⟩ = some (.int .u64 (y : Nat)) ∧ Below wr.heap.size wr w')) (n := 14) (by kernel_rfl) ?_ (fun hHeld hInv => ?_) (by decide)
  ·(try dsimp only)
   (first | assumption | (exact ⟨d1, (Below.refl _ _).drew⟩) | ((try go_split_ands); exact ⟨cellK (by assumption) hb, Below.trans (by assumption) (hb.mono (Below.size (by assumption)))⟩))
  refine takeVS 0 hInv ?_; clear hInv; intro hInv
  refine takeVS 3 hInv ?_; clear hInv; intro hInv
  refine takeVS 6 hInv ?_; clear hInv; intro hInv
  refine takeVS 7 hInv ?_; clear hInv; intro hInv
  refine takeVS 8 hInv ?_; clear hInv; intro hInv
  refine takeVS 9 hInv ?_; clear hInv; intro hInv
  refine takeVS 10 hInv ?_; clear hInv; intro hInv
  refine takeVS 11 hInv ?_; clear hInv; intro hInv
  refine twoS 1 13 hInv (by decide) (by decide) rfl rfl (by kernel_rfl) (fun K hK => ?_) (fun K hK => ?_)
  rotate_left
  ·go_simp
   have hb := bZ wr.drew (.cells #[.int .i64 0, .int .i64 0, .int .u64 0] (107 : Nat))
   refine hK.out _ _ ?_ (fun hHeld2 hInv2 => ?_)
   ·(try dsimp only)
    (first | assumption | (exact ⟨d1, (Below.refl _ _).drew⟩) | ((try go_split_ands); exact ⟨cellK (by assumption) hb, Below.trans (by assumption) (hb.mono (Below.size (by assumption)))⟩))
   clear hK K hHeld hInv
   have hHeld := hHeld2
   have hInv := hInv2
   clear hHeld2 hInv2
   try simp only [Act.put,sA,sB,sC] at hInv ⊢
   refine oneS 1 hInv (by decide) rfl (by kernel_rfl) (fun K hK => ?_)
   go_simp
   (with_reducible refine (hG1.out _).mono ?_); rintro e w8 ⟨rfl, rfl⟩
   refine hK.out _ _ ?_ (fun hHeld2 hInv2 => ?_)
   ·(try dsimp only)
    (first | assumption | (exact ⟨d1, (Below.refl _ _).drew⟩) | ((try go_split_ands); exact ⟨cellK (by assumption) hb, Below.trans (by assumption) (hb.mono (Below.size (by assumption)))⟩))
   clear hK K hHeld hInv
   have hHeld := hHeld2
   have hInv := hInv2
   clear hHeld2 hInv2
   try simp only [Act.put,sA,sB,sC] at hInv ⊢
   refine takeVS 2 hInv ?_; clear hInv; intro hInv
   refine oneS 4 hInv (by decide) rfl (by kernel_rfl) (fun K hK => ?_)
   go_simp
   (with_reducible refine (hG2.out _).mono ?_); rintro e w8 ⟨rfl, rfl⟩
   refine hK.out _ _ ?_ (fun hHeld2 hInv2 => ?_)
   ·(try dsimp only)
    (first | assumption | (exact ⟨d1, (Below.refl _ _).drew⟩) | ((try go_split_ands); exact ⟨cellK (by assumption) hb, Below.trans (by assumption) (hb.mono (Below.size (by assumption)))⟩))
   clear hK K hHeld hInv
   have hHeld := hHeld2
   have hInv := hInv2
   clear hHeld2 hInv2
   try simp only [Act.put,sA,sB,sC] at hInv ⊢
   refine takeVS 5 hInv ?_; clear hInv; intro hInv
   refine takeVS 12 hInv ?_; clear hInv; intro hInv
   refine lastS 14 rfl (by decide) (by kernel_rfl) (fun K hK => ?_)
   go_simp
   refine hK.out _ _ ?_
   clear hK K
   try simp only [Act.put,sA,sB,sC]
   refine wpAnyS_done (by kernel_rfl) ?_ _
   go_wp2_with fail
   go_meet
   exact ⟨rfl, rfl⟩
  go_simp
  (with_reducible refine (hG1.out _).mono ?_); rintro e w8 ⟨rfl, rfl⟩
  refine hK.out _ _ ?_ (fun hHeld2 hInv2 => ?_)
  ·(try dsimp only)
   (first | assumption | (exact ⟨d1, (Below.refl _ _).drew⟩) | ((try go_split_ands); exact ⟨cellK (by assumption) hb, Below.trans (by assumption) (hb.mono (Below.size (by assumption)))⟩))
  clear hK K hHeld hInv
  have hHeld := hHeld2
  have hInv := hInv2
  clear hHeld2 hInv2
  try simp only [Act.put,sA,sB,sC] at hInv ⊢
  refine takeVS 2 hInv ?_; clear hInv; intro hInv
  refine twoS 4 13 hInv (by decide) (by decide) rfl rfl (by kernel_rfl) (fun K hK => ?_) (fun K hK => ?_)
  ·go_simp
   (with_reducible refine (hG2.out _).mono ?_); rintro e w8 ⟨rfl, rfl⟩
   refine hK.out _ _ ?_ (fun hHeld2 hInv2 => ?_)
   ·(try dsimp only)
    (first | assumption | (exact ⟨d1, (Below.refl _ _).drew⟩) | ((try go_split_ands); exact ⟨cellK (by assumption) hb, Below.trans (by assumption) (hb.mono (Below.size (by assumption)))⟩))
   clear hK K hHeld hInv
   have hHeld := hHeld2
   have hInv := hInv2
   clear hHeld2 hInv2
   try simp only [Act.put,sA,sB,sC] at hInv ⊢
   refine takeVS 5 hInv ?_; clear hInv; intro hInv
   refine takeVS 12 hInv ?_; clear hInv; intro hInv
   refine oneS 13 hInv (by decide) rfl (by kernel_rfl) (fun K hK => ?_)
   go_simp
   have hb := bZ wr.drew (.cells #[.int .i64 0, .int .i64 0, .int .u64 0] (107 : Nat))
   refine hK.out _ _ ?_ (fun hHeld2 hInv2 => ?_)
   ·(try dsimp only)
    (first | assumption | (exact ⟨d1, (Below.refl _ _).drew⟩) | ((try go_split_ands); exact ⟨cellK (by assumption) hb, Below.trans (by assumption) (hb.mono (Below.size (by assumption)))⟩))
   clear hK K hHeld hInv
   have hHeld := hHeld2
   have hInv := hInv2
   clear hHeld2 hInv2
   try simp only [Act.put,sA,sB,sC] at hInv ⊢
   refine lastS 14 rfl (by decide) (by kernel_rfl) (fun K hK => ?_)
   go_simp
   refine hK.out _ _ ?_
   clear hK K
   try simp only [Act.put,sA,sB,sC]
   refine wpAnyS_done (by kernel_rfl) ?_ _
   go_wp2_with fail
   go_meet
   exact ⟨rfl, rfl⟩
  go_simp
  have hb := bZ wr.drew (.cells #[.int .i64 0, .int .i64 0, .int .u64 0] (107 : Nat))
  refine hK.out _ _ ?_ (fun hHeld2 hInv2 => ?_)
  ·(try dsimp only)
   (first | assumption | (exact ⟨d1, (Below.refl _ _).drew⟩) | ((try go_split_ands); exact ⟨cellK (by assumption) hb, Below.trans (by assumption) (hb.mono (Below.size (by assumption)))⟩))
  clear hK K hHeld hInv
  have hHeld := hHeld2
  have hInv := hInv2
  clear hHeld2 hInv2
  try simp only [Act.put,sA,sB,sC] at hInv ⊢
  refine oneS 4 hInv (by decide) rfl (by kernel_rfl) (fun K hK => ?_)
  go_simp
  (with_reducible refine (hG2.out _).mono ?_); rintro e w8 ⟨rfl, rfl⟩
  refine hK.out _ _ ?_ (fun hHeld2 hInv2 => ?_)
  ·(try dsimp only)
   (first | assumption | (exact ⟨d1, (Below.refl _ _).drew⟩) | ((try go_split_ands); exact ⟨cellK (by assumption) hb, Below.trans (by assumption) (hb.mono (Below.size (by assumption)))⟩))
  clear hK K hHeld hInv
  have hHeld := hHeld2
  have hInv := hInv2
  clear hHeld2 hInv2
  try simp only [Act.put,sA,sB,sC] at hInv ⊢
  refine takeVS 5 hInv ?_; clear hInv; intro hInv
  refine takeVS 12 hInv ?_; clear hInv; intro hInv
  refine lastS 14 rfl (by decide) (by kernel_rfl) (fun K hK => ?_)
  go_simp
  refine hK.out _ _ ?_
  clear hK K
  try simp only [Act.put,sA,sB,sC]
  refine wpAnyS_done (by kernel_rfl) ?_ _
  go_wp2_with fail
  go_meet
  exact ⟨rfl, rfl⟩
 obtain ⟨rfl, hW⟩ := hcut
 obtain ⟨W, rfl⟩ : ∃ z, z = wc := ⟨_, rfl⟩
 have hbA : Below wr.heap.size wr W := by rw [hW]; exact (bZ _ _).drew
 have hkW : C3 W wr.heap.size (.int .i64 (kk : Int)) (.int .i64 (aa : Int)) (.int .u64 (y : Nat)) := by rw [hW]; exact C3.new _ _ _ _ _
 have hownW := hown.keep hbA
 have hBW := hB.trans (hbA.mono hB.size)
 have hBbW := hBb.trans (hbA.mono hBb.size)
 clear hown hB hBb hbA hW d0 d1
 obtain ⟨b0, b1, b2⟩ := id hkW
 go_wp2_with fail
 refine (hWr.out _).mono ?_
 rintro e W2 ⟨rfl, hb2⟩
 replace hkW := hkW.keep hb2
 replace hownW := hownW.keep hb2
 replace hBW := hBW.trans (hb2.mono hBW.size)
 replace hBbW := hBbW.trans (hb2.mono hBbW.size)
 clear hb2 b0 b1 b2
 obtain ⟨b0, b1, b2⟩ := id hkW
 cases hw0 : wrongB o with
 | true =>
   clear hsu2
   go_wp2_with fail
   go_ret2
   exact ⟨rfl, hBW⟩
 | false =>
   have hfd2 := hfd.out
   rw [hw0] at hfd2
   have hFs2 := hFs.out
   go_wp2_with fail
   refine (hFs2 _ hw0).mono ?_
   rintro e W3 ⟨rfl, hb3⟩
   replace hkW := hkW.keep hb3
   replace hownW := hownW.keep hb3
   replace hBW := hBW.trans (hb3.mono hBW.size)
   replace hBbW := hBbW.trans (hb3.mono hBbW.size)
   clear hb3 b0 b1 b2 hFs2 hw0
   obtain ⟨b0, b1, b2⟩ := id hkW
   by_cases hxl : x < 4194304
   rotate_left
   ·have f1 : (wordOp o != (x : Int)) = true := by
     rw [bne_iff_ne]
     intro h
     exact hxl ((hWo2.out).1 h)
    clear hsu2 hfd2
    go_wp2_with fail
    go_ret2
    exact ⟨rfl, hBW⟩
   rw [(hWo2.out).2 hxl]
   have f1 : ((x : Int) != (x : Int)) = false := by simp
   have hF2 := lh (hCo.out (by rw [hfd2, decide_eq_true hxl]; rfl))
   clear hfd2 hxl
   have hone : EL 3 opE (W3.alloc (.cells #[.int .i64 (kk : Int), .int .i64 (aa : Int), .int .u64 (y : Nat)] (107 : Nat))) (.slice (some ⟨W3.heap.size, 0, none⟩) 1 1) [o] := (OwnE.lit 107 opE_len W3 [o] #[.int .i64 (kk : Int), .int .i64 (aa : Int), .int .u64 (y : Nat)] (by rw [hoe2.out]; rfl) (by simp)).el opE_len
   obtain ⟨v', w4, hrun, ho, hg4, _, _⟩ := appE opT (hownW.alloc (.cells #[.int .i64 (kk : Int), .int .i64 (aa : Int), .int .u64 (y : Nat)] (107 : Nat))) hone (by have := hBbW.size; simp; omega) (by omega) (by simp)
   have hB4 : Below w.heap.size w w4 := (hBW.alloc hBW.size _).grown hg4 (by have := hBW.size; simp; omega) (fun i hi => by have := (hownW.lt _ hi).1; omega)
   have hBb4 : Below w1.heap.size w1 w4 := (hBbW.alloc hBbW.size _).grown hg4 (by have := hBbW.size; simp; omega) (fun i hi => (hownW.lt _ hi).1)
   rw [hsu2.out.symm] at ho
   obtain ⟨J2, hJ2⟩ : ∃ J2, J2 = opsN ws (j + 1) := ⟨_, rfl⟩
   rw [← hJ2] at ho
   replace hJ2 := lh hJ2
   clear hone hg4 hownW hBW hBbW
   go_wp2_with (at_builtin; refine wpList_append_run rfl _ _ 29 rfl _ _ _ rfl rfl hrun ?_)
   clear hrun
   go_wp2_with fail
   go_roundw
   case rel => exact ⟨j + 1, _, by omega, by go_num, hJ2, hF2, ho, hB4, hBb4⟩
   simp [intOf]; omega
theorem dec_f (v : Value) (ws : List Nat) (k : Nat) (w : World) (hv : KL .u64 w v ws) (hW : WL ws) (hlen : ws.length ≤ 900) (hk : k ≤ 19) (hkl : 2 * k + 1 ≤ ws.length) (hd : decB ws k = false) :
 Calls Tryz.prog 190 #[v, .int .i64 (k : Nat)] w fun e w' => e = .returned (.tuple #[.slice none 0 0, .bool false]) ∧ Below w.heap.size w w' := by
 by_cases h : ws.getD (2 * k) 0 = moreN 0 (ws.take (2 * k))
 ·exact dec_no v ws k w hv hW hlen hk hkl h hd
 exact dec_sum v ws k w hv hW hlen hk hkl h
theorem dec_t (v : Value) (ws : List Nat) (k : Nat) (w : World) (hv : KL .u64 w v ws) (hW : WL ws) (hlen : ws.length ≤ 900) (hk : k ≤ 19) (hkl : 2 * k + 1 ≤ ws.length) (hd : decB ws k = true) :
 Calls Tryz.prog 190 #[v, .int .i64 (k : Nat)] w fun e w' => ∃ v', e = .returned (.tuple #[v', .bool true]) ∧ OwnE 107 3 opE w' w.heap.size v' (opsN ws k) ∧ Below w.heap.size w w' :=
 dec_yes v ws k w hv hW hlen hk hkl (decB_all hd).1 hd
end Go.Proofs.YtkkbngcgphlikaaGreatDoor
