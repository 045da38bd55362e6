/-
  Part of the proof of MendTouches.
-/
import Derived.Test.YtkdhdibjbabgfaaGreatDoorVt12
import Derived.Test.YtkdhdibjbabgfaaGreatDoorVt7
import Derived.Test.YtkdhdibjbabgfaaGreatDoorVt0
set_option maxRecDepth 10000
set_option maxHeartbeats 4000000
set_option linter.unusedVariables false
set_option linter.unusedSimpArgs false
namespace Go.Proofs.YtkdhdibjbabgfaaGreatDoor
open Go.RowKit Go.ChangeShapes Go.WideShapes Go.Deep
theorem refEnc_arg (v : Value) (l : List Ox) (w : World) (hv : OPL w v l) (ho : OVs l) (hl19 : l.length ≤ 19) (hr : rightB_rd l = false) :
 Calls Tryz.prog 32 #[v] w fun e w' => e = .returned (.tuple #[.slice none 0 0, .int .i64 1]) ∧ Below w.heap.size w w' := by
 have hX := lh (fun (h : ∀ j, j < l.length → wrongB (l.getD j default) = false) => show False from by have := rightB_all hl19 h; rw [hr] at this; cases this)
 clear hr
 obtain ⟨n, hn⟩ : ∃ n, l.length = n := ⟨_, rfl⟩
 obtain ⟨A, cap, rfl, hC⟩ := hv.form hn
 have hS := lh (fun k (hk : k < n) => show encW_rd (l.take (k + 1)) = encW_rd (l.take k) ++ [wN (l.getD k default), (l.getD k default).2.2] from encW_take l k (by omega))
 have hE := lh (show encW_rd (l.take n) = encW_rd l from by rw [List.take_of_length_le (by omega)])
 have hZ := lh (show encW_rd (l.take 0) = [] from by simp [encW_rd])
 have hLn := lh (fun k (hk : k ≤ n) => show (encW_rd (l.take k)).length = 2 * k from by rw [encW_len, List.length_take]; omega)
 have hV := lh (fun k (hk : k < n) => ho.at k (by omega))
 replace hC := lh hC
 have hn9 : n ≤ 19 := by omega
 have h' : (n : Int) ≤ 19 := by omega
 replace hn := lh hn
 clear hv ho hl19
 go_enter Tryz.func32, Tryz.ntmps32
 go_wp2_with fail
 go_loopw [5, 4] (fun i wd wr => ∃ (k : Nat) (J : List Nat), k ≤ n ∧ i = .int .i64 k ∧ Hid (J = encW_rd (l.take k)) ∧ Hid (∀ j, j < k → wrongB (l.getD j default) = false) ∧ OwnU wr w.heap.size wd J ∧ Below w.heap.size w wr) (fun i _ _ => n + 1 - (intOf i).toNat)
 case atStart => exact ⟨0, [], Nat.zero_le _, rfl, lh hZ.out.symm, (fun j hj => by omega), World.ownsRow_nil _ _ _ _, Below.refl _ _⟩
 case round =>
  obtain ⟨k, J, hk, rfl, hJ, hF, hown, hB⟩ := hrel
  by_cases hlt : k < n
  ·obtain ⟨g, off, rfl, hcap, hgw, hg, c0, c1, c2⟩ := hC.out wr k hB hlt
   have hlt' : (k : Int) < (n : Int) := by omega
   have hs1 := hS.out k hlt
   have hJl : J.length = 2 * k := by rw [hJ.out]; exact hLn.out k hk
   have hov := hV.out k hlt
   rw [← hJ.out] at hs1
   cases hw1 : wrongB (l.getD k default) with
   | true =>
     generalize l.getD k default = o at *
     have hCa := fun w => can_any_rd o w
     rw [hw1] at hCa
     simp only [Bool.not_true] at hCa
     obtain ⟨x, a, y⟩ := o
     unfold opV at hCa
     simp only [] at c0 c1 c2 hCa
     replace hCa := lh hCa
     clear hs1 hw1 hov
     go_wp2_with fail
     refine (hCa.out _).mono ?_
     rintro e w2 ⟨rfl, hb⟩
     have hB2 := hB.trans (hb.mono hB.size)
     go_wp2_with fail
     go_ret2
     exact ⟨rfl, hB2⟩
   | false =>
     have hF2 := lh (fun j (hj : j < k + 1) => show wrongB (l.getD j default) = false from by
      by_cases e : j = k
      ·subst e; exact hw1
      ·exact hF.out j (by omega))
     generalize l.getD k default = o at *
     have hCa := fun w => can_any_rd o w
     rw [hw1] at hCa
     simp only [Bool.not_false] at hCa
     obtain ⟨p1, p2, p3, p4⟩ := wrongB_f hw1
     have hWd := wN_eq hw1
     unfold wordOp at hWd
     generalize wN o = wd at *
     obtain ⟨x, a, y⟩ := o
     unfold opV at hCa
     simp only [] at c0 c1 c2 hov hs1 hCa p1 p2 p3 p4 hWd
     replace hCa := lh hCa
     replace hs1 := lh hs1
     have fa : IntKind.u64.wrap a = a := by rw [IntKind.wrap_u64]; omega
     have fk : IntKind.u64.wrap x = x := by rw [IntKind.wrap_u64]; omega
     have fm : IntKind.u64.wrap (4 * a) = 4 * a := by rw [IntKind.wrap_u64]; omega
     have fs : IntKind.u64.wrap (4 * a + x) = (wd : Int) := by rw [IntKind.wrap_u64, ← hWd]; omega
     replace hWd := lh hWd
     clear hw1
     go_wp2_with fail
     refine (hCa.out _).mono ?_
     rintro e W ⟨rfl, hbC⟩
     have b0 := cellK c0 hbC
     have b1 := cellK c1 hbC
     have b2 := cellK c2 hbC
     have hownW := hown.keep hbC
     have hBW := hB.trans (hbC.mono hB.size)
     clear hown hB hbC
     go_wp2_with fail
     refine wp_region_tail (S := (fun w' => w'.cell? ⟨g, off + k * 3, none⟩ = some (.int .i64 x) ∧ w'.cell? ⟨g, off + k * 3 + 1, none⟩ = some (.int .i64 a) ∧ w'.cell? ⟨g, off + k * 3 + 2, none⟩ = some (.int .u64 (y : Nat)) ∧ Below W.heap.size W w')) (n := 21) (by kernel_rfl) ?_ (fun hHeld hInv => ?_) (by decide)
     ·(try dsimp only)
      (first | assumption | (exact ⟨b0, b1, b2, (Below.refl _ _).drew⟩) | ((try go_split_ands); exact ⟨cellK (by assumption) hb, cellK (by assumption) hb, cellK (by assumption) hb, Below.trans (by assumption) (hb.mono (Below.size (by assumption)))⟩))
     refine takeVS 0 hInv ?_; clear hInv; intro hInv
     refine takeVS 1 hInv ?_; clear hInv; intro hInv
     refine takeVS 2 hInv ?_; clear hInv; intro hInv
     refine takeVS 3 hInv ?_; clear hInv; intro hInv
     refine takeVS 4 hInv ?_; clear hInv; intro hInv
     refine takeVS 5 hInv ?_; clear hInv; intro hInv
     refine takeVS 6 hInv ?_; clear hInv; intro hInv
     refine takeVS 7 hInv ?_; clear hInv; intro hInv
     refine takeVS 8 hInv ?_; clear hInv; intro hInv
     refine takeVS 9 hInv ?_; clear hInv; intro hInv
     refine takeVS 10 hInv ?_; clear hInv; intro hInv
     refine takeVS 11 hInv ?_; clear hInv; intro hInv
     refine takeVS 12 hInv ?_; clear hInv; intro hInv
     refine takeVS 13 hInv ?_; clear hInv; intro hInv
     refine takeVS 14 hInv ?_; clear hInv; intro hInv
     refine takeVS 15 hInv ?_; clear hInv; intro hInv
     refine takeVS 16 hInv ?_; clear hInv; intro hInv
     refine takeVS 17 hInv ?_; clear hInv; intro hInv
     refine takeVS 18 hInv ?_; clear hInv; intro hInv
     refine takeVS 19 hInv ?_; clear hInv; intro hInv
     refine oneS 20 hInv (by decide) rfl (by kernel_rfl) (fun K hK => ?_)
     go_simp
     have hb := bZ W.drew (.cells #[.int .u64 (wd : Nat), .int .u64 (y : Nat)] (25 : Nat))
     refine hK.out _ _ ?_ (fun hHeld2 hInv2 => ?_)
     ·(try dsimp only)
      (first | assumption | (exact ⟨b0, b1, b2, (Below.refl _ _).drew⟩) | ((try go_split_ands); exact ⟨cellK (by assumption) hb, cellK (by assumption) hb, cellK (by assumption) hb, Below.trans (by assumption) (hb.mono (Below.size (by assumption)))⟩))
     clear hK K hHeld hInv
     have hHeld := hHeld2
     have hInv := hInv2
     clear hHeld2 hInv2
     try simp only [Act.put,sA,sB,sC] at hInv ⊢
     refine lastS 21 rfl (by decide) (by kernel_rfl) (fun K hK => ?_)
     obtain ⟨_, _, _, hbL⟩ := id hHeld
     have hB8 := hBW.trans (hbL.mono hBW.size)
     obtain ⟨v', w4, hrun, ho, hb4⟩ := appW (hownW.keep hbL) (KL.two W.drew wd y (25 : Nat)) hB8.size (by omega) (by simp)
     rw [hs1.out.symm] at ho
     obtain ⟨J2, hJ2⟩ : ∃ J2, J2 = encW_rd (l.take (k + 1)) := ⟨_, rfl⟩
     rw [← hJ2] at ho
     replace hJ2 := lh hJ2
     have hBN := hB8.trans hb4
     clear hHeld hb4 hbL hs1 hownW hBW
     rw [if_pos (by rfl)]
     refine wp_append_run _ _ _ _ rfl _ _ _ rfl rfl hrun ?_
     refine hK.out _ _ ?_
     clear hK K
     try simp only [Act.put,sA,sB,sC]
     refine lastS 22 rfl (by decide) (by kernel_rfl) (fun K hK => ?_)
     go_simp
     refine hK.out _ _ ?_
     clear hK K
     try simp only [Act.put,sA,sB,sC]
     refine wpAnyS_done (by kernel_rfl) ?_ _
     clear hInv hrun hB8
     go_wp2_with fail
     go_roundw
     case rel => exact ⟨k + 1, _, by omega, by go_num, hJ2, hF2, ho, hBN⟩
     case measure => simp [intOf]; omega
  ·have hkn : k = n := by omega
   obtain rfl := hkn
   exact absurd (hX.out (fun j hj => hF.out j (by have := hn.out; omega))) id
end Go.Proofs.YtkdhdibjbabgfaaGreatDoor
