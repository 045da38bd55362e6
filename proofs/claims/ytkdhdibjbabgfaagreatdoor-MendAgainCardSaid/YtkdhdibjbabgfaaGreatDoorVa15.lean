/-
  Part of the proof of MendAgain.
-/
import Derived.Test.YtkdhdibjbabgfaaGreatDoorVa11
import Derived.Test.YtkdhdibjbabgfaaGreatDoorVa12
import Derived.Test.YtkdhdibjbabgfaaGreatDoorVa25
import Derived.Test.YtkdhdibjbabgfaaGreatDoorVa31
import Derived.Test.YtkdhdibjbabgfaaGreatDoorVa4
import Derived.Test.YtkdhdibjbabgfaaGreatDoorVa5
import Derived.Test.YtkdhdibjbabgfaaGreatDoorVa6
import Derived.Test.YtkdhdibjbabgfaaGreatDoorVa7
import Derived.Lib.SliceRun
section
set_option linter.unusedVariables false
set_option linter.unusedSimpArgs false
namespace Go.Proofs.YtkdhdibjbabgfaaGreatDoor
open Go.RowKit
theorem st8_ex {W : World} {g : Nat} {t : TypeId} (h : W.heap[g]? = some (.cells (List.replicate 8 (Value.int .u64 0)).toArray t (0, 0))) (x0 x1 x2 x3 x4 x5 x6 x7 : Value) :
 ∃ w9, w9 = ((((((((W.setCell ⟨g, 0, none⟩ x0).setCell ⟨g, 1, none⟩ x1).setCell ⟨g, 2, none⟩ x2).setCell ⟨g, 3, none⟩ x3).setCell ⟨g, 4, none⟩ x4).setCell ⟨g, 5, none⟩ x5).setCell ⟨g, 6, none⟩ x6).setCell ⟨g, 7, none⟩ x7) ∧ w9.heap[g]? = some (.cells #[x0, x1, x2, x3, x4, x5, x6, x7] t (0, 0)) ∧ Below g W w9 := by
 have q1 := heap_setCell_same _ g 0 _ _ x0 h
 have q2 := heap_setCell_same _ g 1 _ _ x1 q1
 have q3 := heap_setCell_same _ g 2 _ _ x2 q2
 have q4 := heap_setCell_same _ g 3 _ _ x3 q3
 have q5 := heap_setCell_same _ g 4 _ _ x4 q4
 have q6 := heap_setCell_same _ g 5 _ _ x5 q5
 have q7 := heap_setCell_same _ g 6 _ _ x6 q6
 have q8 := heap_setCell_same _ g 7 _ _ x7 q7
 have b0 := Below.refl g W
 have b1 := Below.setCell (p := ⟨g, 0, none⟩) b0 (Nat.le_refl _) x0
 have b2 := Below.setCell (p := ⟨g, 1, none⟩) b1 (Nat.le_refl _) x1
 have b3 := Below.setCell (p := ⟨g, 2, none⟩) b2 (Nat.le_refl _) x2
 have b4 := Below.setCell (p := ⟨g, 3, none⟩) b3 (Nat.le_refl _) x3
 have b5 := Below.setCell (p := ⟨g, 4, none⟩) b4 (Nat.le_refl _) x4
 have b6 := Below.setCell (p := ⟨g, 5, none⟩) b5 (Nat.le_refl _) x5
 have b7 := Below.setCell (p := ⟨g, 6, none⟩) b6 (Nat.le_refl _) x6
 have b8 := Below.setCell (p := ⟨g, 7, none⟩) b7 (Nat.le_refl _) x7
 simp only [List.replicate, List.setIfInBounds_toArray, List.set_cons_zero, List.set_cons_succ] at q8
 exact ⟨_, rfl, q8, b8⟩
set_option maxRecDepth 10000 in
set_option maxHeartbeats 1000000 in
theorem parts_x (v : Value) (l : List Nat) (w : World) (x0 x1 x2 x3 x4 x5 x6 x7 : Nat) (e0 : l.getD 0 0 = x0) (e1 : l.getD 1 0 = x1) (e2 : l.getD 2 0 = x2) (e3 : l.getD 3 0 = x3) (e4 : l.getD 4 0 = x4) (e5 : l.getD 5 0 = x5) (e6 : l.getD 6 0 = x6) (e7 : l.getD 7 0 = x7) (h8 : 8 ≤ l.length) (hv : SL w v l) :
 Calls Tryz.prog 80 #[v] w fun e w' => e = .returned (.agg #[.int .u64 x0, .int .u64 x1, .int .u64 x2, .int .u64 x3, .int .u64 x4, .int .u64 x5, .int .u64 x6, .int .u64 x7]) ∧ Below w.heap.size w w' := by
 obtain ⟨sp, cap, rfl⟩ := hv.form
 go_enter Tryz.func80, Tryz.ntmps80
 go_wp2_with fail
 have hw1 := heap_alloc_new (w.alloc (.cells (List.replicate 8 (Value.int .u64 0)).toArray 117)) (.cells (List.replicate 8 (Value.int .u64 0)).toArray 117)
 have hB1 : Below w.heap.size w ((w.alloc (.cells (List.replicate 8 (Value.int .u64 0)).toArray 117)).alloc (.cells (List.replicate 8 (Value.int .u64 0)).toArray 117)) := ((Below.refl _ _).alloc (Nat.le_refl _) _).alloc (by simp) _
 have hr0 := Below.heap_alloc (w.alloc (.cells (List.replicate 8 (Value.int .u64 0)).toArray 117)) (.cells (List.replicate 8 (Value.int .u64 0)).toArray 117) w.heap.size (by simp)
 rw [heap_alloc_new w] at hr0
 rw [show (w.alloc (.cells (List.replicate 8 (Value.int .u64 0)).toArray 117)).heap.size = w.heap.size + 1 by simp] at hw1
 obtain ⟨w2, hrun, hrow2, hb2⟩ := copyW l hw1 (hv.keep hB1)
 have hrun2 : (Builtin.copy_ #[23, 23] 3 #[.slice (some ⟨w.heap.size + 1, 0, none⟩) 8 8, .slice sp l.length cap]).run Tryz.prog ((w.alloc (.cells #[Value.int .u64 0, Value.int .u64 0, Value.int .u64 0, Value.int .u64 0, Value.int .u64 0, Value.int .u64 0, Value.int .u64 0, Value.int .u64 0] 117)).alloc (.cells #[Value.int .u64 0, Value.int .u64 0, Value.int .u64 0, Value.int .u64 0, Value.int .u64 0, Value.int .u64 0, Value.int .u64 0, Value.int .u64 0] 117)) = .ok (goInt (Nat.min l.length 8)) w2 := hrun
 rw [hrun2]
 rw [show Nat.min l.length 8 = 8 from Nat.min_eq_right h8, Nat.sub_self, List.replicate_zero, List.append_nil] at hrow2
 have hr0' := (hb2.block w.heap.size (by omega)).trans hr0
 have hB2 : Below w.heap.size w w2 := hB1.trans (hb2.mono (by omega))
 have hK := fun i (hi : i < 8) => (row_cell hrow2 i).1.trans (by rw [List.getElem?_toArray, wv_at (l.take 8) i (by simp; omega), List.getD_eq_getElem?_getD, List.getElem?_take, if_pos hi, ← List.getD_eq_getElem?_getD])
 have a0 := hK 0 (by omega)
 have a1 := hK 1 (by omega)
 have a2 := hK 2 (by omega)
 have a3 := hK 3 (by omega)
 have a4 := hK 4 (by omega)
 have a5 := hK 5 (by omega)
 have a6 := hK 6 (by omega)
 have a7 := hK 7 (by omega)
 have b0 := row_cell hr0' 0
 have b1 := row_cell hr0' 1
 have b2 := row_cell hr0' 2
 have b3 := row_cell hr0' 3
 have b4 := row_cell hr0' 4
 have b5 := row_cell hr0' 5
 have b6 := row_cell hr0' 6
 have b7 := row_cell hr0' 7
 simp only [List.getElem?_toArray, List.replicate, List.getElem?_cons_zero, List.getElem?_cons_succ] at b0 b1 b2 b3 b4 b5 b6 b7
 clear hrun hrun2 hrow2 hr0 hw1 hb2 hK hB1 hv
 rw [e0] at a0
 rw [e1] at a1
 rw [e2] at a2
 rw [e3] at a3
 rw [e4] at a4
 rw [e5] at a5
 rw [e6] at a6
 rw [e7] at a7
 have hr9 := Lib.hid hr0'
 clear hr0'
 clear e0 e1 e2 e3 e4 e5 e6 e7
 go_wp2_with fail
 obtain ⟨w9, hw9, hq, hb9⟩ := st8_ex hr9.out (.int .u64 (x0 : Int)) (.int .u64 (x1 : Int)) (.int .u64 (x2 : Int)) (.int .u64 (x3 : Int)) (.int .u64 (x4 : Int)) (.int .u64 (x5 : Int)) (.int .u64 (x6 : Int)) (.int .u64 (x7 : Int))
 rw [← hw9]
 refine bodyPost_ret (v := .agg #[.int .u64 x0, .int .u64 x1, .int .u64 x2, .int .u64 x3, .int .u64 x4, .int .u64 x5, .int .u64 x6, .int .u64 x7]) ?_ rfl ⟨rfl, hB2.trans hb9⟩
 exact results_cell_row (p := 2) (ty := 117) rfl _ _ w.heap.size 117 _ (0, 0) _ rfl hq Tryz.underlying117 rfl (by kernel_rfl)
end Go.Proofs.YtkdhdibjbabgfaaGreatDoor
end
section
set_option linter.unusedVariables false
set_option linter.unusedSimpArgs false
namespace Go.Proofs.YtkdhdibjbabgfaaGreatDoor
open Go.RowKit Go.ChangeShapes Go.WideShapes Go.Deep
def wN (o : Ox) : Nat := (wordOp o).toNat
def encW_rd (l : List Ox) : List Nat := l.flatMap fun o => [wN o, o.2.2]
def encS (l : List Ox) : List Nat := encW_rd l ++ [moreN 0 (encW_rd l)]
theorem wN_eq {o : Ox} (h : wrongB o = false) : wordOp o = ((wN o : Nat) : Int) := by
 have := wrongB_f h
 unfold wN wordOp
 omega
theorem wN_lt {o : Ox} (h : wrongB o = false) : wN o < 262144 := by
 have := wrongB_f h
 unfold wN wordOp
 omega
theorem encW_len (l : List Ox) : (encW_rd l).length = 2 * l.length := by
 induction l with
 | nil => rfl
 | cons o l ih => simp only [encW_rd, List.flatMap_cons, List.length_append, List.length_cons, List.length_nil] at *; omega
theorem encW_take (l : List Ox) (k : Nat) (h : k < l.length) : encW_rd (l.take (k + 1)) = encW_rd (l.take k) ++ [wN (l.getD k default), (l.getD k default).2.2] := by
 unfold encW_rd
 rw [List.take_succ_eq_append_getElem h, List.flatMap_append, List.getD_eq_getElem?_getD, List.getElem?_eq_getElem h]
 simp
theorem encW_WL {l : List Ox} (h : ∀ o ∈ l, wrongB o = false) (hv : OVs l) : WL (encW_rd l) := by
 intro x hx
 obtain ⟨o, ho, hx⟩ := List.mem_flatMap.1 hx
 simp only [List.mem_cons, List.not_mem_nil, or_false] at hx
 rcases hx with rfl | rfl
 ·have := wN_lt (h o ho); omega
 ·exact hv o ho
theorem KL.two (w : World) (a b : Nat) (t : TypeId) : KL .u64 (w.alloc (.cells #[.int .u64 (a : Nat), .int .u64 (b : Nat)] t)) (.slice (some ⟨w.heap.size, 0, none⟩) 2 2) [a, b] := by
 refine ⟨_, 2, rfl, fun _ => ⟨w.heap.size, 0, rfl, by simp, by simp, fun i hi => ?_⟩⟩
 match i, hi with
 | 0, _ => simp [go_sem]
 | 1, _ => simp [go_sem]
 | i + 2, hi => simp at hi; omega
theorem rightB_all {l : List Ox} (hk : l.length ≤ 19) (h : ∀ j, j < l.length → wrongB (l.getD j default) = false) : rightB_rd l = true := by
 unfold rightB_rd
 have : l.any wrongB = false := by
  rw [List.any_eq_false]
  intro x hx
  obtain ⟨i, hi, rfl⟩ := List.mem_iff_getElem.1 hx
  have := h i hi
  rw [List.getD_eq_getElem?_getD, List.getElem?_eq_getElem hi] at this
  simp at this; simp [this]
 rw [this]; simp [hk]
set_option maxRecDepth 10000 in
set_option maxHeartbeats 400000 in
theorem refEnc_full (v : Value) (l : List Ox) (w : World) (hv : OPL w v l) (h : 19 < l.length) :
 Calls Tryz.prog 32 #[v] w fun e w' => e = .returned (.tuple #[.slice none 0 0, .int .i64 3]) ∧ Below w.heap.size w w' := by
 obtain ⟨A, cap, rfl, _⟩ := hv.form rfl
 have h' : (19 : Int) < (l.length : Int) := by omega
 clear hv
 go_enter Tryz.func32, Tryz.ntmps32
 go_wp2_with fail
 go_ret2
 exact ⟨rfl, Below.refl _ _⟩
end Go.Proofs.YtkdhdibjbabgfaaGreatDoor
end
section
set_option linter.unusedVariables false
set_option linter.unusedSimpArgs false
namespace Go.Proofs.YtkdhdibjbabgfaaGreatDoor
open Go.RowKit Go.ChangeShapes Go.WideShapes Go.Deep
set_option maxRecDepth 10000 in
set_option maxHeartbeats 4000000 in
theorem refEnc_arg (v : Value) (l : List Ox) (w : World) (hv : OPL w v l) (ho : OVs l) (hl19 : l.length ≤ 19) (hr : rightB_rd l = false) :
 Calls Tryz.prog 32 #[v] w fun e w' => e = .returned (.tuple #[.slice none 0 0, .int .i64 1]) ∧ Below w.heap.size w w' := by
 have hX := Lib.hid (fun (h : ∀ j, j < l.length → wrongB (l.getD j default) = false) => show False from by have := rightB_all hl19 h; rw [hr] at this; cases this)
 clear hr
 obtain ⟨n, hn⟩ : ∃ n, l.length = n := ⟨_, rfl⟩
 obtain ⟨A, cap, rfl, hC⟩ := hv.form hn
 have hS := Lib.hid (fun k (hk : k < n) => show encW_rd (l.take (k + 1)) = encW_rd (l.take k) ++ [wN (l.getD k default), (l.getD k default).2.2] from encW_take l k (by omega))
 have hE := Lib.hid (show encW_rd (l.take n) = encW_rd l from by rw [List.take_of_length_le (by omega)])
 have hZ := Lib.hid (show encW_rd (l.take 0) = [] from by simp [encW_rd])
 have hLn := Lib.hid (fun k (hk : k ≤ n) => show (encW_rd (l.take k)).length = 2 * k from by rw [encW_len, List.length_take]; omega)
 have hV := Lib.hid (fun k (hk : k < n) => ho.at k (by omega))
 replace hC := Lib.hid hC
 have hn9 : n ≤ 19 := by omega
 have h' : (n : Int) ≤ 19 := by omega
 replace hn := Lib.hid hn
 clear hv ho hl19
 go_enter Tryz.func32, Tryz.ntmps32
 go_wp2_with fail
 go_loopw [5, 4] (fun i wd wr => ∃ (k : Nat) (J : List Nat), k ≤ n ∧ i = .int .i64 k ∧ Hid (J = encW_rd (l.take k)) ∧ Hid (∀ j, j < k → wrongB (l.getD j default) = false) ∧ OwnU wr w.heap.size wd J ∧ Below w.heap.size w wr) (fun i _ _ => n + 1 - (intOf i).toNat)
 case atStart => exact ⟨0, [], Nat.zero_le _, rfl, Lib.hid hZ.out.symm, (fun j hj => by omega), World.ownsRow_nil _ _ _ _, Below.refl _ _⟩
 case round =>
  obtain ⟨k, J, hk, rfl, hJ, hF, hown, hB⟩ := hrel
  by_cases hlt : k < n
  ·obtain ⟨g, off, rfl, hcap, hgw, hg, c0, c1, c2⟩ := hC.out wr k hB hlt
   have hlt' : (k : Int) < (n : Int) := by omega
   have hs1 := hS.out k hlt
   have hJl : J.length = 2 * k := by rw [hJ.out]; exact hLn.out k hk
   have hov := hV.out k hlt
   rw [← hJ.out] at hs1
   cases hw1 : wrongB (l.getD k default) with
   | true =>
     generalize l.getD k default = o at *
     have hCa := fun w => can_any_rd o w
     rw [hw1] at hCa
     simp only [Bool.not_true] at hCa
     obtain ⟨x, a, y⟩ := o
     unfold opV at hCa
     simp only [] at c0 c1 c2 hCa
     replace hCa := Lib.hid hCa
     clear hs1 hw1 hov
     go_wp2_with fail
     refine (hCa.out _).mono ?_
     rintro e w2 ⟨rfl, hb⟩
     have hB2 := hB.trans (hb.mono hB.size)
     go_wp2_with fail
     go_ret2
     exact ⟨rfl, hB2⟩
   | false =>
     have hF2 := Lib.hid (fun j (hj : j < k + 1) => show wrongB (l.getD j default) = false from by
      by_cases e : j = k
      ·subst e; exact hw1
      ·exact hF.out j (by omega))
     generalize l.getD k default = o at *
     have hCa := fun w => can_any_rd o w
     rw [hw1] at hCa
     simp only [Bool.not_false] at hCa
     obtain ⟨p1, p2, p3, p4⟩ := wrongB_f hw1
     have hWd := wN_eq hw1
     unfold wordOp at hWd
     generalize wN o = wd at *
     obtain ⟨x, a, y⟩ := o
     unfold opV at hCa
     simp only [] at c0 c1 c2 hov hs1 hCa p1 p2 p3 p4 hWd
     replace hCa := Lib.hid hCa
     replace hs1 := Lib.hid hs1
     have fa : IntKind.u64.wrap a = a := by rw [IntKind.wrap_u64]; omega
     have fk : IntKind.u64.wrap x = x := by rw [IntKind.wrap_u64]; omega
     have fm : IntKind.u64.wrap (4 * a) = 4 * a := by rw [IntKind.wrap_u64]; omega
     have fs : IntKind.u64.wrap (4 * a + x) = (wd : Int) := by rw [IntKind.wrap_u64, ← hWd]; omega
     replace hWd := Lib.hid hWd
     clear hw1
     go_wp2_with fail
     refine (hCa.out _).mono ?_
     rintro e W ⟨rfl, hbC⟩
     have b0 := cellK c0 hbC
     have b1 := cellK c1 hbC
     have b2 := cellK c2 hbC
     have hownW := hown.keep hbC
     have hBW := hB.trans (hbC.mono hB.size)
     clear hown hB hbC
     go_wp2_with fail
     refine wp_region_tail (S := (fun w' => w'.cell? ⟨g, off + k * 3, none⟩ = some (.int .i64 x) ∧ w'.cell? ⟨g, off + k * 3 + 1, none⟩ = some (.int .i64 a) ∧ w'.cell? ⟨g, off + k * 3 + 2, none⟩ = some (.int .u64 (y : Nat)) ∧ Below W.heap.size W w')) (n := 21) (by kernel_rfl) ?_ (fun hHeld hInv => ?_) (by decide)
     ·(try dsimp only)
      (first | assumption | (exact ⟨b0, b1, b2, (Below.refl _ _).drew⟩) | ((try go_split_ands); exact ⟨cellK (by assumption) hb, cellK (by assumption) hb, cellK (by assumption) hb, Below.trans (by assumption) (hb.mono (Below.size (by assumption)))⟩))
     refine takeVS 0 hInv ?_; clear hInv; intro hInv
     refine takeVS 1 hInv ?_; clear hInv; intro hInv
     refine takeVS 2 hInv ?_; clear hInv; intro hInv
     refine takeVS 3 hInv ?_; clear hInv; intro hInv
     refine takeVS 4 hInv ?_; clear hInv; intro hInv
     refine takeVS 5 hInv ?_; clear hInv; intro hInv
     refine takeVS 6 hInv ?_; clear hInv; intro hInv
     refine takeVS 7 hInv ?_; clear hInv; intro hInv
     refine takeVS 8 hInv ?_; clear hInv; intro hInv
     refine takeVS 9 hInv ?_; clear hInv; intro hInv
     refine takeVS 10 hInv ?_; clear hInv; intro hInv
     refine takeVS 11 hInv ?_; clear hInv; intro hInv
     refine takeVS 12 hInv ?_; clear hInv; intro hInv
     refine takeVS 13 hInv ?_; clear hInv; intro hInv
     refine takeVS 14 hInv ?_; clear hInv; intro hInv
     refine takeVS 15 hInv ?_; clear hInv; intro hInv
     refine takeVS 16 hInv ?_; clear hInv; intro hInv
     refine takeVS 17 hInv ?_; clear hInv; intro hInv
     refine takeVS 18 hInv ?_; clear hInv; intro hInv
     refine takeVS 19 hInv ?_; clear hInv; intro hInv
     refine oneS 20 hInv (by decide) rfl (by kernel_rfl) (fun K hK => ?_)
     go_simp
     have hb := (Below.refl W.drew.heap.size W.drew).alloc (Nat.le_refl _) (.cells #[.int .u64 (wd : Nat), .int .u64 (y : Nat)] (25 : Nat))
     refine hK.out _ _ ?_ (fun hHeld2 hInv2 => ?_)
     ·(try dsimp only)
      (first | assumption | (exact ⟨b0, b1, b2, (Below.refl _ _).drew⟩) | ((try go_split_ands); exact ⟨cellK (by assumption) hb, cellK (by assumption) hb, cellK (by assumption) hb, Below.trans (by assumption) (hb.mono (Below.size (by assumption)))⟩))
     clear hK K hHeld hInv
     have hHeld := hHeld2
     have hInv := hInv2
     clear hHeld2 hInv2
     try simp only [Act.put, List.setIfInBounds_toArray, List.set_cons_zero, List.set_cons_succ] at hInv ⊢
     refine lastS 21 rfl (by decide) (by kernel_rfl) (fun K hK => ?_)
     obtain ⟨_, _, _, hbL⟩ := id hHeld
     have hB8 := hBW.trans (hbL.mono hBW.size)
     obtain ⟨v', w4, hrun, ho, hb4⟩ := appW (hownW.keep hbL) (KL.two W.drew wd y (25 : Nat)) hB8.size (by omega) (by simp)
     rw [hs1.out.symm] at ho
     obtain ⟨J2, hJ2⟩ : ∃ J2, J2 = encW_rd (l.take (k + 1)) := ⟨_, rfl⟩
     rw [← hJ2] at ho
     replace hJ2 := Lib.hid hJ2
     have hBN := hB8.trans hb4
     clear hHeld hb4 hbL hs1 hownW hBW
     rw [if_pos (by rfl)]
     refine wp_append_run _ _ _ _ rfl _ _ _ rfl rfl hrun ?_
     refine hK.out _ _ ?_
     clear hK K
     try simp only [Act.put, List.setIfInBounds_toArray, List.set_cons_zero, List.set_cons_succ]
     refine lastS 22 rfl (by decide) (by kernel_rfl) (fun K hK => ?_)
     go_simp
     refine hK.out _ _ ?_
     clear hK K
     try simp only [Act.put, List.setIfInBounds_toArray, List.set_cons_zero, List.set_cons_succ]
     refine wpAnyS_done (by kernel_rfl) ?_ _
     clear hInv hrun hB8
     go_wp2_with fail
     go_roundw
     case rel => exact ⟨k + 1, _, by omega, by go_num, hJ2, hF2, ho, hBN⟩
     case measure => simp [intOf]; omega
  ·have hkn : k = n := by omega
   obtain rfl := hkn
   exact absurd (hX.out (fun j hj => hF.out j (by have := hn.out; omega))) id
end Go.Proofs.YtkdhdibjbabgfaaGreatDoor
end
section
namespace Go.Proofs.YtkdhdibjbabgfaaGreatDoor
open Go.RowKit
set_option maxRecDepth 10000 in
set_option maxHeartbeats 400000 in
theorem refMark_yes (W L i : Int) (w : World) (h : gOk W L = true) (hi : 0 ≤ i) (hi2 : i < L) :
 Calls Tryz.prog 35 #[.agg #[.int .i64 W, .int .i64 L], .int .i64 i] w fun e w' => e = .returned (.int .i64 (10 + i)) ∧ Below w.heap.size w w' := by
 obtain ⟨h1, h2, h3, h4⟩ := gOk_t h
 have H := Lib.hid h
 clear h
 go_enter Tryz.func35, Tryz.ntmps35
 go_wp2_with fail
 refine (refRight_t W L _ H.out).mono ?_
 rintro e w1 ⟨rfl, hb⟩
 have j1 := (C2.new w (.int .i64 W) (.int .i64 L) 33).keep hb
 obtain ⟨d0, d1⟩ := id j1
 go_wp2_with fail
 go_ret
 exact ⟨rfl, ((Below.refl _ _).alloc (Nat.le_refl _) _).trans (hb.mono (by simp))⟩
theorem refMark_t (W L i : Int) (w : World) (h : lOk W L i = true) :
 Calls Tryz.prog 35 #[.agg #[.int .i64 W, .int .i64 L], .int .i64 i] w fun e w' => e = .returned (.int .i64 (10 + i)) ∧ Below w.heap.size w w' := refMark_yes W L i w (lOk_t h).1 (lOk_t h).2.1 (lOk_t h).2.2
set_option maxRecDepth 10000 in
set_option maxHeartbeats 400000 in
theorem refLog_yes (W L i : Int) (w : World) (h : gOk W L = true) (hi : 0 ≤ i) (hi2 : i < L) :
 Calls Tryz.prog 45 #[.agg #[.int .i64 W, .int .i64 L], .int .i64 i] w fun e w' => e = .returned (.agg #[.int .i64 (10 + L + i * 72), .int .i64 32]) ∧ Below w.heap.size w w' := by
 obtain ⟨h1, h2, h3, h4⟩ := gOk_t h
 have H := Lib.hid h
 clear h
 go_enter Tryz.func45, Tryz.ntmps45
 go_wp2_with fail
 refine (refRight_t W L _ H.out).mono ?_
 rintro e w1 ⟨rfl, hb⟩
 have k1 := (C2.new (w.alloc (.cells #[.int .i64 W, .int .i64 L] 33)) (.int .i64 0) (.int .i64 0) 51).keep hb
 have j1 := ((C2.new w (.int .i64 W) (.int .i64 L) 33).alloc (.cells #[.int .i64 0, .int .i64 0] 51)).keep hb
 have f1 := (F2.new (w.alloc (.cells #[.int .i64 W, .int .i64 L] 33)) (.int .i64 0) (.int .i64 0) 51).keep (by simp) hb
 simp only [World.size_alloc] at k1 f1
 have hB : Below w.heap.size w w1 := (((Below.refl _ _).alloc (Nat.le_refl _) _).alloc (by simp) _).trans (hb.mono (by simp; omega))
 have lt1 := k1.lt
 obtain ⟨c0, c1⟩ := id k1
 obtain ⟨d0, d1⟩ := id j1
 obtain ⟨g0, g1⟩ := id f1
 go_wp2_with fail
 refine bodyPost_ret (v := .agg #[.int .i64 (10 + L + i * 72), .int .i64 32]) (by simp [results, Tryz.results45, go_sem, c0, c1]; try omega) rfl ⟨rfl, ?_⟩
 go_grown
theorem refLog_t (W L i : Int) (w : World) (h : lOk W L i = true) :
 Calls Tryz.prog 45 #[.agg #[.int .i64 W, .int .i64 L], .int .i64 i] w fun e w' => e = .returned (.agg #[.int .i64 (10 + L + i * 72), .int .i64 32]) ∧ Below w.heap.size w w' := refLog_yes W L i w (lOk_t h).1 (lOk_t h).2.1 (lOk_t h).2.2
set_option maxRecDepth 10000 in
set_option maxHeartbeats 400000 in
theorem refRedo_yes (W L i : Int) (w : World) (h : gOk W L = true) (hi : 0 ≤ i) (hi2 : i < L) :
 Calls Tryz.prog 33 #[.agg #[.int .i64 W, .int .i64 L], .int .i64 i] w fun e w' => e = .returned (.agg #[.int .i64 (10 + L + i * 72 + 32), .int .i64 40]) ∧ Below w.heap.size w w' := by
 obtain ⟨h1, h2, h3, h4⟩ := gOk_t h
 have H := Lib.hid h
 clear h
 go_enter Tryz.func33, Tryz.ntmps33
 go_wp2_with fail
 refine (refRight_t W L _ H.out).mono ?_
 rintro e w1 ⟨rfl, hb⟩
 have k1 := (C2.new (w.alloc (.cells #[.int .i64 W, .int .i64 L] 33)) (.int .i64 0) (.int .i64 0) 51).keep hb
 have j1 := ((C2.new w (.int .i64 W) (.int .i64 L) 33).alloc (.cells #[.int .i64 0, .int .i64 0] 51)).keep hb
 have f1 := (F2.new (w.alloc (.cells #[.int .i64 W, .int .i64 L] 33)) (.int .i64 0) (.int .i64 0) 51).keep (by simp) hb
 simp only [World.size_alloc] at k1 f1
 have hB : Below w.heap.size w w1 := (((Below.refl _ _).alloc (Nat.le_refl _) _).alloc (by simp) _).trans (hb.mono (by simp; omega))
 have lt1 := k1.lt
 obtain ⟨c0, c1⟩ := id k1
 obtain ⟨d0, d1⟩ := id j1
 obtain ⟨g0, g1⟩ := id f1
 go_wp2_with fail
 refine bodyPost_ret (v := .agg #[.int .i64 (10 + L + i * 72 + 32), .int .i64 40]) (by simp [results, Tryz.results33, go_sem, c0, c1]; try omega) rfl ⟨rfl, ?_⟩
 go_grown
theorem refRedo_t (W L i : Int) (w : World) (h : lOk W L i = true) :
 Calls Tryz.prog 33 #[.agg #[.int .i64 W, .int .i64 L], .int .i64 i] w fun e w' => e = .returned (.agg #[.int .i64 (10 + L + i * 72 + 32), .int .i64 40]) ∧ Below w.heap.size w w' := refRedo_yes W L i w (lOk_t h).1 (lOk_t h).2.1 (lOk_t h).2.2
end Go.Proofs.YtkdhdibjbabgfaaGreatDoor
end
section
set_option linter.unusedVariables false
namespace Go.Proofs.YtkdhdibjbabgfaaGreatDoor
open Go.RowKit
def scatN (I : List Nat) (P : List Int) (ws : List Nat) : Nat → List Nat
 | 0 => I
 | k + 1 => if 0 ≤ P.getD k 0 ∧ P.getD k 0 < (I.length : Int) then (scatN I P ws k).set (P.getD k 0).toNat (ws.getD k 0) else scatN I P ws k
def Ex1 (w : World) (g i : Nat) : Prop := ∃ x, w.cell? ⟨g, i, none⟩ = some x
theorem farR {w : World} {base e size n g o : Nat} {v : Value} {xs : List Value} (h : w.ownsRow base e size v n xs) (hg : g < base) (u : Value) : (w.setCell ⟨g, o, none⟩ u).ownsRow base e size v n xs := by
 refine ⟨h.1, ?_⟩
 rcases h.2 with h2 | ⟨g', cap, cur, hv, hbg, hgc, h1, h2, h3, h4⟩
 ·exact .inl h2
 ·exact .inr ⟨g', cap, cur, hv, hbg, by rw [Below.heap_setCell w ⟨g, o, none⟩ u g' (by simp only []; omega)]; exact hgc, h1, h2, h3, h4⟩
theorem OwnI.drew {w : World} {base : Nat} {v : Value} {l : List Int} (h : OwnI w base v l) : OwnI w.drew base v l := h
set_option maxRecDepth 10000 in
set_option maxHeartbeats 2000000 in
theorem refScatter_any (v u t : Value) (I ws : List Nat) (l : List Sp) (w : World) (hl : PBs l) (hlen : l.length ≤ 1000) (hI : I.length ≤ 100000) (hws : ws.length ≤ 100000) (hv : KL .u64 w v I) (hu : PL w u l) (ht : KL .u64 w t ws) :
 Calls Tryz.prog 31 #[v, u, t] w fun e w' => ∃ v', e = .returned v' ∧ OwnU w' w.heap.size v' (scatN I (placesL l) ws (min (placesL l).length ws.length)) ∧ Below w.heap.size w w' := by
 obtain ⟨vo, wa, hrun, ho, hba⟩ := newW hv hI
 have hPl := Lib.hid (refPlaces_any u l wa hl hlen (hu.keep hba))
 have hlt := placesL_tk l hl l.length (Nat.le_refl _)
 rw [List.take_of_length_le (Nat.le_refl _)] at hlt
 have hnn := places_nn hl
 generalize placesL l = P at *
 obtain ⟨NI, hNI⟩ : ∃ n, I.length = n := ⟨_, rfl⟩
 obtain ⟨NW, hNW⟩ : ∃ n, ws.length = n := ⟨_, rfl⟩
 obtain ⟨n, hn⟩ : ∃ n, P.length = n := ⟨_, rfl⟩
 rw [hn, hNW]
 obtain ⟨AW, capW, rfl, hCW⟩ := ht.form hNW
 have hn9 : n ≤ 1000000 := by omega
 have hf : ∃ Ao co, vo = .slice Ao NI co ∧ (0 < NI → ∃ g, Ao = some ⟨g, 0, none⟩) := by
  rcases ho.2 with ⟨h, h0⟩ | ⟨g, cap, cur, h, _⟩
  ·exact ⟨none, 0, by rw [h, ← hNI, h0], fun q => by omega⟩
  ·exact ⟨_, _, by rw [h, hNI], fun _ => ⟨g, rfl⟩⟩
 obtain ⟨Ao, co, rfl, hAo⟩ := hf
 replace hAo := Lib.hid hAo
 have hT := Lib.hid (fun k (hk : k < n) => show 0 ≤ P.getD k 0 ∧ P.getD k 0 ≤ 2199023255552 from hnn _ (by rw [List.getD_eq_getElem?_getD, List.getElem?_eq_getElem (by omega)]; exact List.getElem_mem _))
 have hS1 := Lib.hid (fun k (h0 : 0 ≤ P.getD k 0) (h : P.getD k 0 < (NI : Int)) => show (scatN I P ws k).set (P.getD k 0).toNat (ws.getD k 0) = scatN I P ws (k + 1) from by rw [scatN, if_pos ⟨h0, by rw [hNI]; exact h⟩])
 have hS0 := Lib.hid (fun k (h : (NI : Int) ≤ P.getD k 0) => show scatN I P ws k = scatN I P ws (k + 1) from by rw [scatN, if_neg (by rw [hNI]; omega)])
 replace hCW := Lib.hid hCW
 have ho' : wa.ownsRow w.heap.size 25 1 (.slice Ao NI co) NI (I.map fun x : Nat => Value.int .u64 x) := by have h := ho; unfold OwnU at h; rwa [hNI] at h
 have hI0 := Lib.hid (show I = scatN I P ws 0 from rfl)
 have hNW9 : NW ≤ 100000 := by omega
 have hNI9 : NI ≤ 100000 := by omega
 replace hn := Lib.hid hn
 have hNI' := Lib.hid hNI
 clear ho hv hu ht hl hlen hI hlt hnn hws hNI hNW
 go_enter Tryz.func31, Tryz.ntmps31
 go_wp2_with (at_builtin; refine wpList_append_run rfl _ _ 23 rfl _ _ _ rfl rfl hrun ?_)
 refine hPl.out.mono ?_
 rintro e w1 ⟨vp, rfl, hop, hb1⟩
 have hfp : ∃ Ap cp, vp = .slice Ap n cp ∧ (0 < n → ∃ g, Ap = some ⟨g, 0, none⟩) := by
  have hn' := hn.out
  rcases hop.2 with ⟨h, h0⟩ | ⟨g, cap, cur, h, _⟩
  ·exact ⟨none, 0, by rw [h, ← hn', h0], fun q => by omega⟩
  ·exact ⟨_, _, by rw [h, hn'], fun _ => ⟨g, rfl⟩⟩
 obtain ⟨Ap, cp, rfl, hAp⟩ := hfp
 have hP1 : w1.ownsRow wa.heap.size 3 1 (.slice Ap n cp) n (P.map fun x : Int => Value.int .i64 x) := by have h := hop; unfold OwnI at h; rwa [hn.out] at h
 have hO1 : w1.ownsRow w.heap.size 25 1 (.slice Ao NI co) NI (I.map fun x : Nat => Value.int .u64 x) := by
  have h : OwnU wa w.heap.size (.slice Ao NI co) I := by unfold OwnU; rw [hNI'.out]; exact ho'
  have h2 := h.keep hb1
  unfold OwnU at h2
  rwa [hNI'.out] at h2
 have hAl := Lib.hid (fun g (h : (Value.slice Ao NI co).ownBlock = some g) => (ho'.lt g h))
 have hPl2 := Lib.hid (fun g (h : (Value.slice Ap n cp).ownBlock = some g) => (hP1.lt g h).1)
 have hsz := hb1.size
 have hB1 := hba.trans (hb1.mono hba.size)
 replace hAp := Lib.hid hAp
 clear hop ho' hPl hb1 hba hrun
 go_wp2_with fail
 go_loopw [9] (fun x wr => ∃ (k : Nat) (O : List Nat), k ≤ n ∧ k ≤ NW ∧ x = .int .i64 k ∧ Hid (O = scatN I P ws k) ∧ O.length = NI ∧ wr.ownsRow w.heap.size 25 1 (.slice Ao NI co) NI (O.map fun x : Nat => Value.int .u64 x) ∧ wr.ownsRow wa.heap.size 3 1 (.slice Ap n cp) n (P.map fun x : Int => Value.int .i64 x) ∧ Below w.heap.size w wr ∧ wa.heap.size ≤ wr.heap.size) (fun x _ => n + 1 - (intOf x).toNat)
 case atStart => exact ⟨0, I, Nat.zero_le _, Nat.zero_le _, rfl, hI0.out, hNI'.out, hO1, hP1, hB1, hsz⟩
 case round =>
  clear hO1 hP1 hB1 hsz
  obtain ⟨k, O, hk, hkw, rfl, hLe, hLl, hO, hP, hB, hsz⟩ := hrel
  by_cases hlt : k < n
  ·by_cases hlw : k < NW
   ·have hlt' : (k : Int) < (n : Int) := by omega
    have hlw' : (k : Int) < (NW : Int) := by omega
    obtain ⟨gp, rfl⟩ := hAp.out (by omega)
    have c0 : wr.cell? ⟨gp, k, none⟩ = some (.int .i64 (P.getD k 0)) := by
     have hn' := hn.out
     rw [hP.cellAt k (by omega), List.getElem?_map, List.getD_eq_getElem?_getD, List.getElem?_eq_getElem (by omega)]
     rfl
    obtain ⟨gw, ow, rfl, hcapw, hgw, _⟩ := hCW.out w k (Below.refl _ _) hlw
    obtain ⟨g2, o2, he, _, hgw2, d0⟩ := hCW.out wr k hB hlw
    cases he
    obtain ⟨t2, t3⟩ := hT.out k hlt
    have hS1k := hS1.out k
    have hS0k := hS0.out k
    rw [← hLe.out] at hS1k hS0k
    have hgp := hPl2.out gp rfl
    generalize P.getD k 0 = y at *
    obtain ⟨i, rfl⟩ := Int.eq_ofNat_of_zero_le t2
    generalize ws.getD k 0 = z at *
    by_cases k2 : i < NI
    ·have k2' : (i : Int) < (NI : Int) := by omega
     obtain ⟨go, rfl⟩ := hAo.out (by omega)
     obtain ⟨hg1, hg2⟩ := hAl.out go rfl
     have hLn := Lib.hid (hS1k t2 k2')
     simp only [Int.toNat_natCast] at hLn
     clear hS1k hS0k
     have f0 := hO.frozenAt i
     have e0 : Ex1 wr go i := ⟨_, by rw [hO.cellAt i (by omega)]; exact List.getElem?_eq_getElem (by simp; omega)⟩
     have hO' : (wr.setCell ⟨go, i, none⟩ (.int .u64 (z : Nat))).drew.ownsRow w.heap.size 25 1 (.slice (some ⟨go, 0, none⟩) NI co) NI ((O.map fun x : Nat => Value.int .u64 x).set i (.int .u64 (z : Nat))) := (World.ownsRow.stored (w := wr) hO i (.int .u64 (z : Nat))).1
     have s1 : (wr.setCell ⟨go, i, none⟩ (.int .u64 (z : Nat))).drew.cell? ⟨gp, k, none⟩ = some (.int .i64 (i : Int)) := (World.cell?_of_block (Below.heap_setCell wr ⟨go, i, none⟩ (.int .u64 (z : Nat)) gp (by simp only []; omega))).trans c0
     have s2 : (wr.setCell ⟨go, i, none⟩ (.int .u64 (z : Nat))).drew.cell? ⟨gw, ow + k, none⟩ = some (.int .u64 (z : Nat)) := (World.cell?_of_block (Below.heap_setCell wr ⟨go, i, none⟩ (.int .u64 (z : Nat)) gw (by simp only []; omega))).trans d0
     have s3 := hO'.frozenAt i
     have s4 : Ex1 (wr.setCell ⟨go, i, none⟩ (.int .u64 (z : Nat))).drew go i := ⟨_, by rw [hO'.cellAt i (by omega)]; exact List.getElem?_eq_getElem (by simp; omega)⟩
     have hO2 : (wr.setCell ⟨go, i, none⟩ (.int .u64 (z : Nat))).drew.ownsRow w.heap.size 25 1 (.slice (some ⟨go, 0, none⟩) NI co) NI ((O.set i z).map fun x : Nat => Value.int .u64 x) := by rw [List.map_set]; exact hO'
     have hP2 := farR (w := wr) (o := i) hP hg2 (.int .u64 (z : Nat))
     have hB2 := ((hB).setCell (p := ⟨go, i, none⟩) hg1 (.int .u64 (z : Nat))).drew
     have hs2 : wa.heap.size ≤ (wr.setCell ⟨go, i, none⟩ (.int .u64 (z : Nat))).drew.heap.size := by simpa using hsz
     clear hO' hO hP hB hsz
     go_wp2_with fail
     refine wp_region_held_drew (S := (fun w' => w'.cell? ⟨gp, k, none⟩ = some (.int .i64 (i : Int)) ∧ w'.cell? ⟨gw, ow + k, none⟩ = some (.int .u64 (z : Nat)) ∧ w'.frozen? ⟨go, i, none⟩ = false ∧ Ex1 w' go i)) (by kernel_rfl) ?_ (fun hHeld => ?_)
     ·(try dsimp only)
      ((try go_split_ands); refine ⟨?_, ?_, ?_, ?_⟩ <;> first | assumption | exact c0 | exact d0 | exact f0 | exact e0 | exact s1 | exact s2 | exact s3 | exact s4)
     refine takeV 0 ?_
     refine takeV 1 ?_
     refine takeV 2 ?_
     refine takeV 3 ?_
     refine takeV 4 ?_
     refine takeV 5 ?_
     refine takeV 6 ?_
     refine takeV 7 ?_
     refine takeV 8 ?_
     refine takeV 9 ?_
     refine oneL 10 rfl (by kernel_rfl) (fun K hK => ?_)
     go_simp
     (go_split_ands; obtain ⟨x0, hx0⟩ := id e0; go_simp; (try simp only [Result.andThen_ok]); (try go_simp))
     refine hK.out _ _ ?_ (fun hHeld2 => ?_)
     ·(try dsimp only)
      ((try go_split_ands); refine ⟨?_, ?_, ?_, ?_⟩ <;> first | assumption | exact c0 | exact d0 | exact f0 | exact e0 | exact s1 | exact s2 | exact s3 | exact s4)
     clear hK K
     try simp only [Act.put, List.setIfInBounds_toArray, List.set_cons_zero, List.set_cons_succ]
     refine wpAnyH_done (by kernel_rfl) ?_ _
     go_wp2_with fail
     go_roundw
     case rel => exact ⟨k + 1, _, by omega, by omega, by go_num, hLn, by rw [List.length_set]; exact hLl, hO2, hP2, hB2, hs2⟩
     case measure => simp [intOf]; omega
    ·have k3 : (NI : Int) ≤ (i : Int) := by omega
     have hLn := Lib.hid (hS0k k3)
     clear hS1k hS0k
     go_wp2_with fail
     go_roundw
     case rel => exact ⟨k + 1, _, by omega, by omega, by go_num, hLn, hLl, hO, hP, hB, hsz⟩
     case measure => simp [intOf]; omega
   ·have hlt' : (k : Int) < (n : Int) := by omega
    have hlw' : (NW : Int) ≤ (k : Int) := by omega
    have hR := Lib.hid (show O = scatN I P ws (min n NW) from by rw [hLe.out, show min n NW = k by omega])
    go_wp2_with fail
    go_ret
    exact ⟨_, rfl, by rw [← hR.out]; unfold OwnU; rw [hLl]; exact hO, hB⟩
  ·have hlt' : (n : Int) ≤ (k : Int) := by omega
   have hR := Lib.hid (show O = scatN I P ws (min n NW) from by rw [hLe.out, show min n NW = k by omega])
   go_wp2_with fail
   go_ret
   exact ⟨_, rfl, by rw [← hR.out]; unfold OwnU; rw [hLl]; exact hO, hB⟩
end Go.Proofs.YtkdhdibjbabgfaaGreatDoor
end
