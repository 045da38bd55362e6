/-
  Part of the proof of JournalSteps.
-/
import Derived.Test.YtkkbngcgphlikaaGreatDoorJt17
import Derived.Test.YtkkbngcgphlikaaGreatDoorJt25
import Derived.Test.YtkkbngcgphlikaaGreatDoorJt0
set_option maxRecDepth 10000
set_option maxHeartbeats 4000000
set_option linter.unusedVariables false
set_option linter.unusedSimpArgs false
section
namespace Go.Proofs.YtkkbngcgphlikaaGreatDoor
open Go.RowKit
def smW (a b c : Int) : Int := 10 + 73 * (1 + a % 64) + 33 * (1 + b % 200) + c % 33
def smL (a : Int) : Int := 1 + a % 64
theorem small_any (a b c : Int) (w : World) (h1 : 0 ≤ a) (h2 : a ≤ 255) (h3 : 0 ≤ b) (h4 : b ≤ 255) (h5 : 0 ≤ c) (h6 : c ≤ 255) :
 Calls Tryz.prog 52 #[.int .u8 a, .int .u8 b, .int .u8 c] w fun e w' => e = .returned (.agg #[.int .i64 (smW a b c), .int .i64 (smL a)]) ∧ Below w.heap.size w w' := by
 go_enter Tryz.func52, Tryz.ntmps52
 go_wp2
 go_returns
 refine ⟨?_, by go_grown⟩
 unfold smW smL
 exact ret_g (by omega) (by omega)
end Go.Proofs.YtkkbngcgphlikaaGreatDoor
end
section
namespace Go.Proofs.YtkkbngcgphlikaaGreatDoor
open Go.RowKit Go.ChangeShapes Go.WideShapes Go.Deep
theorem refEnc_arg (v : Value) (l : List Ox) (w : World) (hv : OPL w v l) (ho : OVs l) (hl19 : l.length ≤ 19) (hr : rightB_rd l = false) :
 Calls Tryz.prog 83 #[v] w fun e w' => e = .returned (.tuple #[.slice none 0 0, .int .i64 1]) ∧ Below w.heap.size w w' := by
 have hX := lh (fun (h : ∀ j, j < l.length → wrongB (l.getD j default) = false) => show False from by have := rightB_all hl19 h; rw [hr] at this; cases this)
 clear hr
 obtain ⟨n, hn⟩ : ∃ n, l.length = n := ⟨_, rfl⟩
 obtain ⟨A, cap, rfl, hC⟩ := hv.form hn
 have hS := lh (fun k (hk : k < n) => show encW_rd (l.take (k + 1)) = encW_rd (l.take k) ++ [wN (l.getD k default), (l.getD k default).2.2] from encW_take l k (by omega))
 have hE := lh (show encW_rd (l.take n) = encW_rd l from by rw [List.take_of_length_le (by omega)])
 have hZ := lh (show encW_rd (l.take 0) = [] from by simp [encW_rd])
 have hLn := lh (fun k (hk : k ≤ n) => show (encW_rd (l.take k)).length = 2 * k from by rw [encW_len, List.length_take]; omega)
 have hV := lh (fun k (hk : k < n) => ho.at k (by omega))
 replace hC := lh hC
 have hn9 : n ≤ 19 := by omega
 have h' : (n : Int) ≤ 19 := by omega
 replace hn := lh hn
 clear hv ho hl19
 go_enter Tryz.func83, Tryz.ntmps83
 go_wp2_with fail
 go_loopw [5, 4] (fun i wd wr => ∃ (k : Nat) (J : List Nat), k ≤ n ∧ i = .int .i64 k ∧ Hid (J = encW_rd (l.take k)) ∧ Hid (∀ j, j < k → wrongB (l.getD j default) = false) ∧ OwnU wr w.heap.size wd J ∧ Below w.heap.size w wr) (fun i _ _ => n + 1 - (intOf i).toNat)
 case atStart => exact ⟨0, [], Nat.zero_le _, rfl, lh hZ.out.symm, (fun j hj => by omega), World.ownsRow_nil _ _ _ _, Below.refl _ _⟩
 obtain ⟨k, J, hk, rfl, hJ, hF, hown, hB⟩ := hrel
 by_cases hlt : k < n
 rotate_left
 ·have hkn : k = n := by omega
  obtain rfl := hkn
  exact absurd (hX.out (fun j hj => hF.out j (by have := hn.out; omega))) id
 obtain ⟨g, off, rfl, hcap, hgw, hg, c0, c1, c2⟩ := hC.out wr k hB hlt
 have hlt' : (k : Int) < (n : Int) := by omega
 have hs1 := hS.out k hlt
 have hJl : J.length = 2 * k := by rw [hJ.out]; exact hLn.out k hk
 have hov := hV.out k hlt
 rw [← hJ.out] at hs1
 cases hw1 : wrongB (l.getD k default) with
 | true =>
   generalize l.getD k default = o at *
   have hCa := fun w => can_any_rd o w
   rw [hw1] at hCa
   simp only [Bool.not_true] at hCa
   obtain ⟨x, a, y⟩ := o
   unfold opV at hCa
   simp only [] at c0 c1 c2 hCa
   replace hCa := lh hCa
   clear hs1 hw1 hov
   go_wp2_with fail
   refine (hCa.out _).mono ?_
   rintro e w2 ⟨rfl, hb⟩
   have hB2 := hB.trans (hb.mono hB.size)
   go_wp2_with fail
   go_ret2
   exact ⟨rfl, hB2⟩
 | false =>
   have hF2 := lh (fun j (hj : j < k + 1) => show wrongB (l.getD j default) = false from by
    by_cases e : j = k
    ·subst e; exact hw1
    exact hF.out j (by omega))
   generalize l.getD k default = o at *
   have hCa := fun w => can_any_rd o w
   rw [hw1] at hCa
   simp only [Bool.not_false] at hCa
   obtain ⟨p1, p2, p3, p4⟩ := wrongB_f hw1
   have hWd := wN_eq hw1
   unfold wordOp at hWd
   generalize wN o = wd at *
   obtain ⟨x, a, y⟩ := o
   unfold opV at hCa
   simp only [] at c0 c1 c2 hov hs1 hCa p1 p2 p3 p4 hWd
   replace hCa := lh hCa
   replace hs1 := lh hs1
   have fa : IntKind.u64.wrap a = a := by rw [IntKind.wrap_u64]; omega
   have fk : IntKind.u64.wrap x = x := by rw [IntKind.wrap_u64]; omega
   have fm : IntKind.u64.wrap (4 * a) = 4 * a := by rw [IntKind.wrap_u64]; omega
   have fs : IntKind.u64.wrap (4 * a + x) = (wd : Int) := by rw [IntKind.wrap_u64, ← hWd]; omega
   replace hWd := lh hWd
   clear hw1
   go_wp2_with fail
   refine (hCa.out _).mono ?_
   rintro e W ⟨rfl, hbC⟩
   have b0 := cellK c0 hbC
   have b1 := cellK c1 hbC
   have b2 := cellK c2 hbC
   have hownW := hown.keep hbC
   have hBW := hB.trans (hbC.mono hB.size)
   clear hown hB hbC
   go_wp2_with fail
   refine wp_region_tail (S := (fun w' => w'.cell? ⟨g, off + k * 3, none⟩ = some (.int .i64 x) ∧ w'.cell? ⟨g, off + k * 3 + 1, none⟩ = some (.int .i64 a) ∧ w'.cell? ⟨g, off + k * 3 + 2, none⟩ = some (.int .u64 (y : Nat)) ∧ Below W.heap.size W w')) (n := 21) (by kernel_rfl) ?_ (fun hHeld hInv => ?_) (by decide)
   ·(try dsimp only)
    (first | assumption | (exact ⟨b0, b1, b2, (Below.refl _ _).drew⟩) | ((try go_split_ands); exact ⟨cellK (by assumption) hb, cellK (by assumption) hb, cellK (by assumption) hb, Below.trans (by assumption) (hb.mono (Below.size (by assumption)))⟩))
   refine takeVS 0 hInv ?_; clear hInv; intro hInv
   refine takeVS 1 hInv ?_; clear hInv; intro hInv
   refine takeVS 2 hInv ?_; clear hInv; intro hInv
   refine takeVS 3 hInv ?_; clear hInv; intro hInv
   refine takeVS 4 hInv ?_; clear hInv; intro hInv
   refine takeVS 5 hInv ?_; clear hInv; intro hInv
   refine takeVS 6 hInv ?_; clear hInv; intro hInv
   refine takeVS 7 hInv ?_; clear hInv; intro hInv
   refine takeVS 8 hInv ?_; clear hInv; intro hInv
   refine takeVS 9 hInv ?_; clear hInv; intro hInv
   refine takeVS 10 hInv ?_; clear hInv; intro hInv
   refine takeVS 11 hInv ?_; clear hInv; intro hInv
   refine takeVS 12 hInv ?_; clear hInv; intro hInv
   refine takeVS 13 hInv ?_; clear hInv; intro hInv
   refine takeVS 14 hInv ?_; clear hInv; intro hInv
   refine takeVS 15 hInv ?_; clear hInv; intro hInv
   refine takeVS 16 hInv ?_; clear hInv; intro hInv
   refine takeVS 17 hInv ?_; clear hInv; intro hInv
   refine takeVS 18 hInv ?_; clear hInv; intro hInv
   refine takeVS 19 hInv ?_; clear hInv; intro hInv
   refine oneS 20 hInv (by decide) rfl (by kernel_rfl) (fun K hK => ?_)
   go_simp
   have hb := bZ W.drew (.cells #[.int .u64 (wd : Nat), .int .u64 (y : Nat)] (40 : Nat))
   refine hK.out _ _ ?_ (fun hHeld2 hInv2 => ?_)
   ·(try dsimp only)
    (first | assumption | (exact ⟨b0, b1, b2, (Below.refl _ _).drew⟩) | ((try go_split_ands); exact ⟨cellK (by assumption) hb, cellK (by assumption) hb, cellK (by assumption) hb, Below.trans (by assumption) (hb.mono (Below.size (by assumption)))⟩))
   clear hK K hHeld hInv
   have hHeld := hHeld2
   have hInv := hInv2
   clear hHeld2 hInv2
   try simp only [Act.put,sA,sB,sC] at hInv ⊢
   refine lastS 21 rfl (by decide) (by kernel_rfl) (fun K hK => ?_)
   obtain ⟨_, _, _, hbL⟩ := id hHeld
   have hB8 := hBW.trans (hbL.mono hBW.size)
   obtain ⟨v', w4, hrun, ho, hb4⟩ := appW (hownW.keep hbL) (KL.two W.drew wd y (40 : Nat)) hB8.size (by omega) (by simp)
   rw [hs1.out.symm] at ho
   obtain ⟨J2, hJ2⟩ : ∃ J2, J2 = encW_rd (l.take (k + 1)) := ⟨_, rfl⟩
   rw [← hJ2] at ho
   replace hJ2 := lh hJ2
   have hBN := hB8.trans hb4
   clear hHeld hb4 hbL hs1 hownW hBW
   rw [if_pos (by rfl)]
   refine wp_append_run _ _ _ _ rfl _ _ _ rfl rfl hrun ?_
   refine hK.out _ _ ?_
   clear hK K
   try simp only [Act.put,sA,sB,sC]
   refine lastS 22 rfl (by decide) (by kernel_rfl) (fun K hK => ?_)
   go_simp
   refine hK.out _ _ ?_
   clear hK K
   try simp only [Act.put,sA,sB,sC]
   refine wpAnyS_done (by kernel_rfl) ?_ _
   clear hInv hrun hB8
   go_wp2_with fail
   go_roundw
   case rel => exact ⟨k + 1, _, by omega, by go_num, hJ2, hF2, ho, hBN⟩
   simp [intOf]; omega
end Go.Proofs.YtkkbngcgphlikaaGreatDoor
end
section
namespace Go.Proofs.YtkkbngcgphlikaaGreatDoor
open Go.RowKit
theorem has_yes (W L i : Int) (w : World) (h : gOk W L = true) (hi : 0 ≤ i) (hi2 : i < L) :
 Calls Tryz.prog 158 #[.agg #[.int .i64 W, .int .i64 L], .int .i64 i] w fun e w' => e = .returned (.bool true) ∧ Below w.heap.size w w' := by
 have H := lh h
 clear h
 go_enter Tryz.func158, Tryz.ntmps158
 go_wp2_with fail
 refine (right_t W L _ H.out).mono ?_
 rintro e w1 ⟨rfl, hb⟩
 have k1 := (C2.new w (.int .i64 W) (.int .i64 L) 37).keep hb
 obtain ⟨c0, c1⟩ := id k1
 go_wp2_with fail
 go_ret
 exact ⟨ret_b (by simp), (bZ _ _).trans (hb.mono (by simp))⟩
theorem has_t (W L i : Int) (w : World) (h : lOk W L i = true) :
 Calls Tryz.prog 158 #[.agg #[.int .i64 W, .int .i64 L], .int .i64 i] w fun e w' => e = .returned (.bool true) ∧ Below w.heap.size w w' := has_yes W L i w (lOk_t h).1 (lOk_t h).2.1 (lOk_t h).2.2
theorem mark_t (W L i : Int) (w : World) (h : lOk W L i = true) :
 Calls Tryz.prog 122 #[.agg #[.int .i64 W, .int .i64 L], .int .i64 i] w fun e w' => e = .returned (.int .i64 (10 + i)) ∧ Below w.heap.size w w' := by
 obtain ⟨h0, h1, h2⟩ := lOk_t h
 obtain ⟨h3, h4, _, _⟩ := gOk_t h0
 clear h0
 have H := lh h
 clear h
 go_enter Tryz.func122, Tryz.ntmps122
 go_wp2_with fail
 refine (has_t W L i _ H.out).mono ?_
 rintro e w1 ⟨rfl, hb⟩
 go_wp2_with fail
 go_ret
 exact ⟨rfl, (bZ _ _).trans (hb.mono (by simp))⟩
theorem words_t (W L i : Int) (w : World) (h : lOk W L i = true) :
 Calls Tryz.prog 113 #[.agg #[.int .i64 W, .int .i64 L], .int .i64 i] w fun e w' => ∃ b, e = .returned (.func (.func 161) #[] #[.pointer (some ⟨b, 0, none⟩)]) ∧ Cap w' b (.int .i64 (10 + L + i * 72)) ∧ w.heap.size ≤ b ∧ Below w.heap.size w w' := by
 obtain ⟨h0, h1, h2⟩ := lOk_t h
 obtain ⟨h3, h4, _, _⟩ := gOk_t h0
 clear h0
 have H := lh h
 clear h
 go_enter Tryz.func113, Tryz.ntmps113
 go_wp2_with fail
 refine (has_t W L i _ H.out).mono ?_
 rintro e w1 ⟨rfl, hb⟩
 have k1 := (C2.new w (.int .i64 W) (.int .i64 L) 37).keep hb
 obtain ⟨c0, c1⟩ := id k1
 have lt1 := k1.lt
 have hB : Below w.heap.size w w1 := (bZ _ _).trans (hb.mono (by simp))
 go_wp2_with fail
 refine (lane_any W L i _ h3 h4 h1 (by omega)).mono ?_
 rintro e w2 ⟨rfl, hb2⟩
 obtain ⟨hB2, hz2⟩ := belowStep hB (Nat.le_of_lt lt1) hb2
 go_wp2_with fail
 go_ret
 exact ⟨w2.heap.size, rfl, by unfold Cap; simp [go_sem], hz2, hB2.alloc hz2 _⟩
theorem words2_any (f s m : Int) (b : Nat) (w : World) (hc : w.cell? ⟨b, 0, none⟩ = some (.int .i64 f)) (h1 : 0 ≤ f) (h2 : f ≤ 100000) (h3 : 0 ≤ s) (h4 : s ≤ 100) :
 Calls Tryz.prog 161 #[.int .i64 s, .int .i64 m, .pointer (some ⟨b, 0, none⟩)] w fun e w' => e = .returned (.agg #[.int .i64 (f + s), .int .i64 m]) ∧ Below w.heap.size w w' := by
 have hlt : b < w.heap.size := World.block_lt_of_cell? w _ hc
 go_enter Tryz.func161, Tryz.ntmps161
 go_wp2
 go_returns
 exact ⟨rfl, by go_grown⟩
theorem log_t (W L i : Int) (w : World) (h : lOk W L i = true) :
 Calls Tryz.prog 175 #[.agg #[.int .i64 W, .int .i64 L], .int .i64 i] w fun e w' => e = .returned (.agg #[.int .i64 (10 + L + i * 72), .int .i64 32]) ∧ Below w.heap.size w w' := by
 obtain ⟨h0, h1, h2⟩ := lOk_t h
 obtain ⟨h3, h4, _, _⟩ := gOk_t h0
 clear h0
 have H := lh h
 clear h
 go_enter Tryz.func175, Tryz.ntmps175
 go_wp2_with fail
 refine (words_t W L i _ H.out).mono ?_
 rintro e w1 ⟨b, rfl, hcap, hbl, hb⟩
 have k1 := (C2.new (w.alloc (.cells #[.int .i64 W, .int .i64 L] 37)) (.int .i64 0) (.int .i64 0) 70).keep hb
 have f1 := (F2.new (w.alloc (.cells #[.int .i64 W, .int .i64 L] 37)) (.int .i64 0) (.int .i64 0) 70).keep (by simp) hb
 simp only [World.size_alloc] at k1 f1
 have hB : Below w.heap.size w w1 := ((bZ _ _).alloc (by simp) _).trans (hb.mono (by simp; omega))
 have lt1 := k1.lt
 go_wp2_with fail
 refine (words2_any (10 + L + i * 72) 0 32 b _ hcap (by omega) (by omega) (by omega) (by omega)).mono ?_
 rintro e w2 ⟨rfl, hb2⟩
 have k2 := k1.keep hb2
 have f2 := f1.keep lt1 hb2
 obtain ⟨hB2, hz2⟩ := belowStep hB (by omega) hb2
 obtain ⟨c0, c1⟩ := id k2
 obtain ⟨g0, g1⟩ := id f2
 go_wp2_with fail
 refine bodyPost_ret (v := .agg #[.int .i64 (10 + L + i * 72), .int .i64 32]) (by simp [results, Tryz.results175, go_sem, c0, c1]) rfl ⟨rfl, ?_⟩
 go_grown
end Go.Proofs.YtkkbngcgphlikaaGreatDoor
end
section
namespace Go.Proofs.YtkkbngcgphlikaaGreatDoor
open Go.RowKit Go.ChangeShapes Go.WideShapes Go.Deep
theorem seal_new (v : Value) (l : List Nat) (w : World) (hl : WL l) (hlen : l.length ≤ 900) (hv : SL w v l) :
 Calls Tryz.prog 112 #[v] w fun e w' => ∃ v', e = .returned v' ∧ SL w' v' (l ++ [moreN 0 l]) ∧ (∀ k, v'.ownBlock = some k → w.heap.size ≤ k) ∧ Below w.heap.size w w' := by
 obtain ⟨i0, hi, hz0, hz1, hz2⟩ := info_parts infoU64
 have hvv := hv
 have hv1 : ∃ sp cap, v = .slice sp l.length cap := by
  rcases hv with ⟨rfl, sp, cap, rfl⟩ | ⟨g, off, cap, rfl, _⟩
  ·exact ⟨_, _, rfl⟩
  exact ⟨_, _, rfl⟩
 obtain ⟨sp, cap, rfl⟩ := hv1
 have hn1 := lh (show ((l.length : Int) + 1) = ((l.length + 1 : Nat) : Int) by omega)
 go_enter Tryz.func112, Tryz.ntmps112
 go_wp2_with (at_make; refine wpList_make_full _ rfl _ _ 25 rfl w.heap.size 40 i0 (.int .u64 0) 1 Tryz.underlying25 hi hz0 hz1 .i64 .i64 _ _ (l.length + 1) rfl rfl hn1.out hn1.out (by rw [hz2]; omega) (by unfold maxLen; omega) (Nat.le_refl _) ?_; intro w1 hown hgr)
 have hrow := row_of_owns hown rfl
 rw [show (madeCells (Value.int IntKind.u64 0).cells ((l.length + 1) * 1)).toList = List.replicate (l.length + 1) (Value.int .u64 0) by
  rw [Nat.mul_one]; exact toList_madeCells_one _ _] at hrow
 have hB1 : Below w.heap.size w w1 := (Below.refl _ _).grown hgr (Nat.le_refl _) (by simp)
 obtain ⟨w2, hrun, hrow2, hb2⟩ := copyW l hrow (hvv.keep hB1)
 rw [show Nat.min l.length (l.length + 1) = l.length from Nat.min_eq_left (by omega), List.take_of_length_le (Nat.le_refl _), show l.length + 1 - l.length = 1 by omega] at hrow2
 rw [hrun]
 have hB2 : Below w.heap.size w w2 := hB1.trans hb2
 have hg2 : w.heap.size < w2.heap.size := (Array.getElem?_eq_some_iff.1 hrow2).1
 have hO := lh (of_any _ l w2 hl (by omega) (hvv.keep hB2))
 have hS2 := lh (hvv.keep hB2)
 have hR := lh (row_cell hrow2)
 clear hrun hrow hrow2 hown hgr hvv hb2 hB1
 go_wp2_with fail
 refine hO.out.mono ?_
 rintro e w3 ⟨rfl, hb3⟩
 have hB3 : Below w.heap.size w w3 := hB2.trans (hb3.mono hB2.size)
 have hc3 : w3.cell? ⟨w.heap.size, l.length, none⟩ = some (.int .u64 0) := by
  rw [(bcell hb3).1 _ _ hg2, (hR.out l.length).1]
  simp [wv]
 have hf3 : w3.frozen? ⟨w.heap.size, l.length, none⟩ = false := by rw [(bcell hb3).2 _ _ hg2]; exact (hR.out l.length).2
 have hm := moreN_lt 0 l
 generalize hmm : moreN 0 l = m at *
 replace hmm := lh hmm
 go_wp2_with fail
 go_ret
 refine ⟨_, rfl, ?_, fun k e => (by simp [Value.ownBlock] at e; omega), hB3.setCell (Nat.le_refl _) _⟩
 rw [hmm.out]
 refine .inr ⟨w.heap.size, 0, l.length + 1, by simp, ?_, by simp, fun i hi => ?_⟩
 ·have := Nat.lt_of_lt_of_le hg2 hb3.size
  simpa using this
 simp only [List.length_append, List.length_singleton] at hi
 rw [Nat.zero_add]
 by_cases e : i = l.length
 ·subst e
  rw [World.cell?_setCell_same _ _ _ hc3]
  simp
 rw [World.cell?_setCell_other _ _ _ _ (by intro h; simp only [Addr.mk.injEq] at h; omega), (bcell hb3).1 _ _ hg2, (hR.out i).1]
 have hi2 : i < l.length := by omega
 rw [List.getElem?_toArray, List.getElem?_append_left (by rw [wv_len]; exact hi2), wv_at l i hi2]
 simp [List.getD_eq_getElem?_getD, List.getElem?_append_left hi2]
theorem Encode_new (gn : Nat) (x : Ex) (w : World) (hg : gn < 18446744073709551616) (hx : KL .u64 w x.2.1 x.2.2) (hl : WL x.2.2) (hlen : x.2.2.length ≤ 800) (hr : rightB x = true) :
 Calls Tryz.prog 93 #[.int .u64 (gn : Nat), eV x] w fun e w' => ∃ v, e = .returned (.tuple #[v, .int .i64 0]) ∧ KL .u64 w' v (encW gn x.1.toNat x.2.2) ∧ (∀ k, v.ownBlock = some k → w.heap.size ≤ k) ∧ Below w.heap.size w w' := by
 obtain ⟨a, v, l⟩ := x
 obtain ⟨A, cap, hv, _⟩ := hx.form rfl
 simp only [] at hv
 subst hv
 have hrr := canB_iff.1 hr
 simp only [] at hrr hlen hl
 obtain ⟨a, rfl⟩ := Int.eq_ofNat_of_zero_le hrr.1
 obtain ⟨i0, hi, hz0, hz1, hz2⟩ := info_parts infoU64
 have hb0 : Below w.heap.size w (w.alloc (.cells #[.int .i64 (a : Nat), .slice A l.length cap] (136 : Nat))) := bZ _ _
 have hC := Right_any ((a : Int), .slice A l.length cap, l) _ (hx.keep hb0)
 rw [hr] at hC
 have kk := World.alloc_heap_new w (.cells #[.int .i64 (a : Nat), .slice A l.length cap] (136 : Nat))
 obtain ⟨n, hn⟩ : ∃ n, l.length = n := ⟨_, rfl⟩
 obtain ⟨f, hf⟩ : ∃ f, firstW gn a n = f := ⟨_, rfl⟩
 have hfl := firstW_lt gn a n (by omega) (by omega)
 have hE := lh (show encW gn ((a : Nat) : Int).toNat l = (f :: l) ++ [moreN 0 (f :: l)] from by unfold encW; rw [Int.toNat_natCast, hn, hf])
 have hWL : Hid (WL (f :: l)) := fun y hy => by
  rcases List.mem_cons.1 hy with rfl | hy
  ·rw [← hf]; exact hfl
  exact hl y hy
 have hF := lh (fun w' => first_any gn a n w' hg (by omega) (by omega))
 rw [hf] at hF
 simp only [hn, eV, eE] at hC kk hb0 ⊢
 have hn800 : n ≤ 800 := by omega
 have hnh := lh hn
 have hxh : Hid (KL .u64 w (.slice A n cap) l) := by
  have q : KL .u64 w (.slice A l.length cap) l := hx
  rw [hn] at q
  exact q
 clear hx hr hrr hlen hl hn hf hfl
 go_enter Tryz.func93, Tryz.ntmps93
 go_wp2_with (first
  | (go_at_call 144; refine hC.mono ?_; rintro e w1 ⟨rfl, hb⟩; clear hC
     have hb1 := hb0.trans (hb.mono (by simp))
     have k0 : w1.heap[w.heap.size]? = some (.cells #[.int .i64 (a : Nat), .slice A n cap] (136 : Nat) (0, 0)) := (hb.block _ (by simp)).trans kk
     have hs1 : w.heap.size < w1.heap.size := (Array.getElem?_eq_some_iff.1 k0).1
     obtain ⟨p1, z1⟩ := row_cell k0 1
     clear hb hb0 kk)
  | (at_make; refine wpList_make_own _ rfl _ _ 25 rfl w1.heap.size 40 i0 (.int .u64 0) 1 Tryz.underlying25 hi hz0 hz1 .i64 .i64 _ (n + 1) rfl rfl (by first | rfl | (go_num) | simp) (by rw [hz2]; omega) (by unfold maxLen; omega) (Nat.le_refl _) ?_; intro w2 hown hgr
     have hO2 : OwnU w2 w1.heap.size (.slice (some ⟨w1.heap.size, 0, none⟩) 0 (n + 1)) [] := hown
     have hb2 : Below w1.heap.size w1 w2 := (Below.refl _ _).grown hgr (Nat.le_refl _) (by simp)
     have k2 : w2.heap[w.heap.size]? = some (.cells #[.int .i64 (a : Nat), .slice A n cap] (136 : Nat) (0, 0)) := (hb2.block _ hs1).trans k0
     obtain ⟨p2, z2⟩ := row_cell k2 0
     obtain ⟨p3, z3⟩ := row_cell k2 1
     have hs2 := hb2.size
     obtain ⟨v3, w3, hr3, hO3, hb3⟩ := appW (hO2.keep (bZ _ (.cells #[.int .u64 (f : Nat)] (40 : Nat)))) (KL.one w2 f 40) (by rw [World.size_alloc]; omega) (by simp) (by simp)
     replace hO3 : OwnU w3 w1.heap.size v3 [f] := by simpa using hO3
     have hb3' : Below w1.heap.size w1 w3 := (hb2.trans ((bZ _ _).mono hb2.size)).trans hb3
     have k3 : w3.heap[w.heap.size]? = some (.cells #[.int .i64 (a : Nat), .slice A n cap] (136 : Nat) (0, 0)) := (hb3'.block _ hs1).trans k0
     obtain ⟨p4, z4⟩ := row_cell k3 1
     have hb3w := hb1.trans (hb3'.mono hb1.size)
     obtain ⟨v4, w4, hr4, hO4, hb4⟩ := appW hO3 (hxh.out.keep hb3w) hb3'.size (by simp) (by show l.length ≤ 1000000; rw [hnh.out]; omega)
     replace hO4 : OwnU w4 w1.heap.size v4 (f :: l) := hO4
     have hb4w := lh (hb3w.trans (hb4.mono hb1.size))
     have hSl := seal_new v4 (f :: l) w4 hWL.out (by rw [List.length_cons, hnh.out]; omega) hO4.kl.sl
     obtain ⟨A3, c3, hv3, _⟩ := hO3.form
     rw [List.length_singleton] at hv3
     subst hv3
     obtain ⟨A4, c4, hv4, _⟩ := hO4.form
     rw [List.length_cons, hnh.out] at hv4
     subst hv4
     clear hown hgr hO2 hO3 hO4 hb2 hb3 hb3' hb4 hb3w k0 k2 k3)
  | (go_at_call 145; refine (hF.out _).mono ?_; rintro e w5 ⟨rfl, rfl⟩)
  | (at_builtin; refine wpList_append_run rfl _ _ 25 rfl _ _ _ rfl rfl hr3 ?_; clear hr3)
  | (at_builtin; refine wpList_append_run rfl _ _ 25 rfl _ _ _ rfl rfl hr4 ?_; clear hr4)
  | (go_at_call 112; refine hSl.mono ?_; rintro e w6 ⟨v6, rfl, hS6, hn6, hb6⟩; clear hSl
     obtain ⟨sp6, c6, hv6⟩ := SL.form hS6
     rw [show (f :: l ++ [moreN 0 (f :: l)]).length = n + 2 from by simp only [List.length_append, List.length_cons, List.length_nil]; rw [hnh.out]] at hv6
     subst hv6))
 go_ret2
 exact ⟨_, rfl, by rw [hE.out]; exact hS6.kl, fun k e => Nat.le_trans hb4w.out.size (hn6 k e), hb4w.out.trans (hb6.mono hb4w.out.size)⟩
end Go.Proofs.YtkkbngcgphlikaaGreatDoor
end
