/-
  Part of the proof of JournalSteps.
-/
import Derived.Test.YtkkbngcgphlikaaGreatDoorJt47
import Derived.Test.YtkkbngcgphlikaaGreatDoorJt48
import Derived.Test.YtkkbngcgphlikaaGreatDoorJt0
set_option maxRecDepth 10000
set_option maxHeartbeats 8000000
set_option linter.unusedVariables false
set_option linter.unusedSimpArgs false
section
namespace Go.Proofs.YtkkbngcgphlikaaGreatDoor
open Go.Lib Go.RowKit Go.ChangeShapes Go.WideShapes Go.Deep Go.Shelf
theorem WD.zero {l : List Nat} (h : WL l) : WD (dv0 l) := fun i hi v hv => by
 rcases hv with q | q | q
 ·rw [q]; exact h.at i hi
 ·cases q
 ·cases q
theorem GoodJ.note {s : Dv} {N k0 : Nat} (hg : GoodJ s N k0) (hN : 1 ≤ N) (L ln A m : Nat) : GoodJ (noteD s N L ln A m) N (k0 + (m + 2) + (roomJ s N L ln m).length * N + 1 + N + 2) :=
 (GoodJ.fences hN _ (GoodJ.stoR hg _ _ (m + 2))).lay hN _ _
def k0J : Sk := { a := 0, b := 0, tiles := [], types := [], less := [], ep := 0, root := 0, fill := [] }
theorem k0_few : fewS k0J = true := by decide
theorem k0_B : SkB k0J := ⟨by decide, by decide, fun x hx => (by cases hx), fun x hx => (by cases hx), fun x hx => (by cases hx), by decide, by decide, fun x hx => (by cases hx)⟩
def a0S : Dv := dv0 (stockL k0J)
def a1S : Dv := layD a0S (10 + ((0 : Nat) : Int)) (begW (loadD a0S (10 + ((0 : Nat) : Int))))
def a2S : Dv := noteD a1S 116 1 0 84 2
theorem a_len : (stockL k0J).length = 116 := by decide +kernel
theorem a_l0 : loadD a0S (10 + ((0 : Nat) : Int)) < 18446744073709551616 := by decide +kernel
theorem a_st1 : a1S.steps = 3 := by decide +kernel
theorem a_l1 : loadD a1S (10 + ((0 : Nat) : Int)) = 65537 := by decide +kernel
theorem a_tot : totS (logP (viewD a1S) ((116 : Nat) : Int) ((1 : Nat) : Int) ((0 : Nat) : Int)) = 32 := by decide +kernel
theorem a_room : (roomJ a1S 116 1 0 2).length = 1 := by decide +kernel
theorem a_st2 : a2S.steps = 12 := by decide +kernel
theorem a_l2 : loadD a2S (10 + ((0 : Nat) : Int)) = 65553 := by decide +kernel
theorem a_in : inB 116 1 ((84 : Nat) : Int) = true ∧ inB 116 1 (((84 : Nat) : Int) + ((2 : Nat) : Int) - 1) = true ∧ inB 116 1 83 = false := by decide +kernel
theorem a_lk : lOk ((116 : Nat) : Int) ((1 : Nat) : Int) ((0 : Nat) : Int) = true := by decide
theorem awake19 (w : World) (hw : Lw w) : Calls Tryz.prog 9 #[] w fun e w' => e = .returned (.bool true) ∧ Below w.heap.size w w' := by
 have hSk := Stocked_any k0J (.slice none 0 0) (.slice none 0 0) (.slice none 0 0) (.slice none 0 0) w hw ⟨⟨none, 0, rfl, fun h => absurd h (by decide)⟩, ⟨none, 0, rfl, fun h => absurd h (by decide)⟩, ⟨none, 0, rfl, fun h => absurd h (by decide)⟩, ⟨none, 0, rfl, fun h => absurd h (by decide)⟩⟩ k0_B k0_few
 replace hSk : Calls Tryz.prog 12 #[.agg #[.int .u8 0, .int .u8 0, .slice none 0 0, .slice none 0 0, .slice none 0 0, .int .u32 0, .int .u8 0, .slice none 0 0]] w (fun e w' => ∃ v', e = .returned v' ∧ OwnU w' w.heap.size v' (stockL k0J) ∧ Hid (WL (stockL k0J)) ∧ Below w.heap.size w w') := hSk
 have hlen := lh a_len
 have g0 : GoodJ a0S 116 0 := by have h := GoodJ.zero (stockL k0J); rw [a_len] at h; exact h
 have g1 : GoodJ a1S 116 118 := g0.lay (by decide) _ _
 have g2 : GoodJ a2S 116 500 := (g1.note (by decide) 1 0 84 2).mono (by rw [a_room]; decide)
 have e1 := lh a_st1
 have e2 := lh a_st2
 have hOp := lh (fun v w1 (hv : KL .u64 w1 v (stockL k0J)) => show Calls Tryz.prog 14 #[v] w1 (fun e w' => ∃ B F, e = .returned (.tuple #[.pointer (some ⟨B, 0, none⟩), .int .i64 0]) ∧ DvAt w' B F a0S ∧ (∀ k, F k → w1.heap.size ≤ k) ∧ Below w1.heap.size w1 w') from dOpen v (stockL k0J) w1 (by rw [a_len]; decide) (by rw [a_len]; decide) hv)
 have hBe := lh (fun B F w1 (h : DvAt w1 B F a0S) => show Calls Tryz.prog 42 #[.pointer (some ⟨B, 0, none⟩), .agg #[.int .i64 116, .int .i64 1], .int .i64 0] w1 (fun e w' => e = .returned (.tuple #[]) ∧ DvAt w' B F a1S ∧ Chg F w1 w') from jBegin B F a0S 116 1 0 0 w1 h g0 (by decide) (by decide) (by decide) a_lk (by decide) a_l0)
 have hN1 := lh (fun B F w1 (h : DvAt w1 B F a1S) (hl : Lw w1) (hW : WD a1S) => show Calls Tryz.prog 34 #[.pointer (some ⟨B, 0, none⟩), .agg #[.int .i64 116, .int .i64 1], .int .i64 0, .agg #[.int .i64 84, .int .i64 2]] w1 (fun e w' => e = .returned (.int .i64 0) ∧ DvAt w' B F a2S ∧ Chg F w1 w') from
  jNote_ok B F a1S 116 1 0 84 2 w1 hl h 118 g1 (by decide) (by decide) a_lk (by rw [a_l1]; decide) (viewD_WL hW) (fun _ => h40J (by rw [view_len, g1.len]; decide) _) (by decide) (by decide) (by decide) (by decide) a_in.1 a_in.2.1 (by rw [a_l1]; decide) (by rw [a_l1, a_tot]; decide) (by rw [a_l1]; decide) (by rw [a_room]; decide) (roomJ_PS a1S 2 (by decide) (by decide)))
 have hN2 := lh (fun B F w1 (h : DvAt w1 B F a2S) => show Calls Tryz.prog 34 #[.pointer (some ⟨B, 0, none⟩), .agg #[.int .i64 116, .int .i64 1], .int .i64 0, .agg #[.int .i64 83, .int .i64 2]] w1 (fun e w' => e = .returned (.int .i64 13) ∧ Below w1.heap.size w1 w') from
  jNote_range B F a2S 116 1 0 83 2 w1 h (g2.good (by decide) (by decide) (by decide)) a_lk (by rw [a_l2]; decide) (by decide) (by decide) (by rw [a_l2]; decide) (.inr (.inr (.inl a_in.2.2))))
 have hS1 := lh (fun B F w1 (h : DvAt w1 B F a1S) => show Calls Tryz.prog 43 #[.pointer (some ⟨B, 0, none⟩)] w1 (fun e w' => e = .returned (.int .i64 3) ∧ w' = w1) from by
  have q := dSteps B F a1S w1 h
  rw [a_st1] at q
  exact q)
 have hS2 := lh (fun B F w1 (h : DvAt w1 B F a2S) => show Calls Tryz.prog 43 #[.pointer (some ⟨B, 0, none⟩)] w1 (fun e w' => e = .returned (.int .i64 12) ∧ w' = w1) from by
  have q := dSteps B F a2S w1 h
  rw [a_st2] at q
  exact q)
 have hVw := lh (fun B F w1 (h : DvAt w1 B F a2S) => show Calls Tryz.prog 26 #[.pointer (some ⟨B, 0, none⟩)] w1 (fun e w' => ∃ A c, e = .returned (.slice A 116 c) ∧ Below w1.heap.size w1 w') from
  (jView B F a2S w1 h (g2.good (by decide) (by decide) (by decide))).mono (by
    rintro e w' ⟨v', rfl, hO, hb⟩
    obtain ⟨A, c, hv, -⟩ := OwnU.form hO
    rw [view_len, g2.len] at hv
    exact ⟨A, c, by rw [hv], hb⟩))
 have hWD := lh (fun (h : WL (stockL k0J)) => show WD a1S from (WD.zero h).lay _ (by decide +kernel))
 generalize stockL k0J = X at *
 generalize a0S = s0 at *
 generalize a1S = s1 at *
 generalize a2S = s2 at *
 have hwk := lh (fun w1 (hb : Below w.heap.size w w1) => hw.keep hb)
 clear g0 g1 g2 e1 e2 hw
 go_enter Tryz.func9, Tryz.ntmps9
 go_wp2_with fail
 refine hSk.mono ?_
 rintro e w1 ⟨v1, rfl, hO1, hW, hB1⟩
 obtain ⟨A1, c1, hv1, -⟩ := OwnU.form hO1
 rw [hlen.out] at hv1
 cases hv1
 have hk1 := hO1.kl
 have e2 := bZ w1 (.cells #[.int .i64 116, .int .i64 1] (37 : Nat))
 have gG := HB.new w1 #[.int .i64 116, .int .i64 1] (37 : Nat)
 obtain ⟨w2, hw2⟩ : ∃ z, w1.alloc (.cells #[.int .i64 116, .int .i64 1] (37 : Nat)) = z := ⟨_, rfl⟩
 obtain ⟨C, hC⟩ : ∃ C, w1.heap.size = C := ⟨_, rfl⟩
 rw [hw2] at e2 gG
 rw [hC] at gG
 have hB2 := hB1.trans (e2.mono hB1.size)
 have hk2 := hk1.keep e2
 have hOp2 := hOp.out _ _ hk2
 clear hSk hO1 hk1 hk2 e2 hOp hB1
 subst hw2
 go_wp2_with fail
 refine hOp2.mono ?_
 rintro e w3 ⟨B, F, rfl, hD3, hF, hb3⟩
 have hF0 : ∀ k, F k → w.heap.size ≤ k := fun k q => Nat.le_trans hB2.size (hF k q)
 have hnC : ¬ F C := fun q => by have h1 := hF C q; have h2 := gG.lt; omega
 have hB3 := hB2.trans (hb3.mono hB2.size)
 have gG3 := gG.keep hb3
 obtain ⟨q0, q1⟩ := gG3.c2
 clear hOp2 hb3 gG hB2
 replace hF := lh hF
 replace hF0 := lh hF0
 go_wp2_with fail
 refine (hBe.out B F _ hD3).mono ?_
 rintro e w4 ⟨rfl, hD4, hc4⟩
 have hB4 := hB3.trans (hc4.below hF0.out hB3.size)
 have gG4 := gG3.chgJ hc4 hnC
 obtain ⟨r0, r1⟩ := gG4.c2
 clear hD3 hBe hB3 gG3 hc4 q0 q1
 go_wp2_with fail
 refine (hS1.out B F _ hD4).mono ?_
 rintro e w5 ⟨rfl, rfl⟩
 clear hS1
 go_wp2_with fail
 refine (hN1.out B F _ hD4 (hwk.out _ hB4) (hWD.out hW.out)).mono ?_
 rintro e w6 ⟨rfl, hD6, hc6⟩
 have hB6 := hB4.trans (hc6.below hF0.out hB4.size)
 have gG6 := gG4.chgJ hc6 hnC
 obtain ⟨t0, t1⟩ := gG6.c2
 clear hD4 hN1 hB4 gG4 hc6 r0 r1
 go_wp2_with fail
 refine (hS2.out B F _ hD6).mono ?_
 rintro e w7 ⟨rfl, rfl⟩
 clear hS2
 go_wp2_with fail
 refine (hN2.out B F _ hD6).mono ?_
 rintro e w8 ⟨rfl, hb8⟩
 have hB8 := hB6.trans (hb8.mono hB6.size)
 have hD8 := hD6.keep hb8
 clear hD6 hN2 hB6 gG6 hb8 t0 t1
 go_wp2_with fail
 refine (hVw.out B F _ hD8).mono ?_
 rintro e w9 ⟨A9, c9, rfl, hb9⟩
 have hB9 := hB8.trans (hb9.mono hB8.size)
 go_wp2_with fail
 go_ret
 exact ⟨by first | rfl | simp, hB9⟩
end Go.Proofs.YtkkbngcgphlikaaGreatDoor
end
section
namespace Go.Proofs.YtkkbngcgphlikaaGreatDoor
open Go.Lib Go.RowKit Go.ChangeShapes Go.WideShapes Go.Deep Go.Shelf
theorem logP_len9 {I : List Nat} {N L ln : Nat} (hg : gOk (N : Nat) (L : Nat) = true) : (logP I (N : Nat) (L : Nat) (ln : Nat)).length ≤ 1 + gNat N L := by
 unfold logP
 split
 rotate_left
 ·exact Nat.zero_le _
 rename_i hb
 unfold laneB at hb
 rw [Bool.and_eq_true] at hb
 obtain ⟨hp, h1, h2⟩ := readB_t hb.1
 rw [Int.toNat_natCast, Int.toNat_natCast]
 have e : I.length = N := by omega
 have h3 := logSp_len (I := I) (L := L) (ln := ln) (by rw [e]; exact hg)
 rw [e] at h3
 exact h3
theorem room_len9 (s : Dv) {N L G ln : Nat} (m : Nat) (hg : gOk (N : Nat) (L : Nat) = true) (hG : gNat N L = G) (hN : N ≤ 1000) : (roomJ s N L ln m).length ≤ 1 + G := by
 have h1 := logP_len9 (I := viewD s) (ln := ln) hg
 have h2 := (cut_pb ((curC (loadD s (10 + (ln : Int))) : Nat), ((m + 2 : Nat) : Int)) (logP_PB (I := viewD s) (ln := ln) hg hN).1).2
 unfold roomJ
 omega
theorem note_bd (s : Dv) {N L G ln : Nat} (m : Nat) (hg : gOk (N : Nat) (L : Nat) = true) (hG : gNat N L = G) (hN : N ≤ 500) (hG8 : G ≤ 8) : (roomJ s N L ln m).length * N ≤ 4500 := by
 have h := room_len9 s (ln := ln) m hg hG (by omega)
 exact Nat.le_trans (Nat.mul_le_mul (show (roomJ s N L ln m).length ≤ 9 by omega) hN) (by decide)
theorem lOk_of {N L ln : Nat} (hg : gOk (N : Nat) (L : Nat) = true) (h : ln < L) : lOk (N : Nat) (L : Nat) (ln : Nat) = true := by
 unfold lOk
 rw [hg]
 simp
 omega
theorem jNote_any (B : Nat) (F : Nat → Prop) (s : Dv) (N L G ln A m : Nat) (w : World) (hw : Lw w) (h : DvAt w B F s) (k0 : Nat) (hgJ : GoodJ s N k0) (hgk : gOk (N : Nat) (L : Nat) = true) (hln : ln < L) (hG : gNat N L = G) (hN : N ≤ 500) (hG8 : G ≤ 8) (hW : WD s) (hm1 : 1 ≤ m) (hm8 : m ≤ 6) (hA1 : 10 + 73 * L + G ≤ A) (hA2 : A + m ≤ 10 + 73 * L + G + 32 * G) (hk : k0 ≤ 90000) :
 Calls Tryz.prog 34 #[.pointer (some ⟨B, 0, none⟩), .agg #[.int .i64 (N : Nat), .int .i64 (L : Nat)], .int .i64 (ln : Nat), .agg #[.int .i64 (A : Nat), .int .i64 (m : Nat)]] w fun e w' => ∃ r : Int, e = .returned (.int .i64 r) ∧ Chg F w w' ∧ ((r = 0 ∧ noteOk s N L ln m ∧ DvAt w' B F (noteD s N L ln A m)) ∨ (¬ r = 0 ∧ ¬ noteOk s N L ln m ∧ DvAt w' B F s)) := by
 obtain ⟨z1, z2, z3, z4, z5, z6, z7, z8⟩ := pool_size hgk
 rw [hG] at z5 z6 z7 z8
 have hlk := lOk_of hgk hln
 have hxb := hW.load (10 + (ln : Int))
 have hGd := hgJ.good (by omega) (by omega) (by omega)
 have hWv := viewD_WL hW
 have h40 : poolB (viewD s) = true → gNat (viewD s).length ((viewD s).getD 3 0) ≤ 40 := fun _ => h40J (by rw [view_len, hgJ.len]; omega) _
 have hi : ∀ a : Int, ((10 + 73 * L + G : Nat) : Int) ≤ a → a < ((10 + 73 * L + G + 32 * G : Nat) : Int) → inB N L a = true := fun a h1 h2 => by
  unfold inB cFrom
  rw [z5]
  exact decide_eq_true (by omega)
 have hi1 := hi (A : Nat) (by omega) (by omega)
 have hi2 := hi ((A : Nat) + (m : Nat) - 1) (by omega) (by omega)
 by_cases h1 : curS (loadD s (10 + (ln : Int))) = 1
 ·by_cases h2 : ((curC (loadD s (10 + (ln : Int))) + (m + 2) : Nat) : Int) ≤ totS (logP (viewD s) (N : Nat) (L : Nat) (ln : Nat)) ∧ curC (loadD s (10 + (ln : Int))) + (m + 2) ≤ 16383
  ·have hb := note_bd s (ln := ln) m hgk hG hN hG8
   refine (jNote_ok B F s N L ln A m w hw h k0 hgJ (by omega) (by omega) hlk hxb hWv h40 (by omega) hm1 (by omega) (by omega) hi1 hi2 h1 h2.1 h2.2 (by omega) (roomJ_PS s m hgk (by omega))).mono ?_
   rintro e w' ⟨rfl, hD, hc⟩
   exact ⟨0, rfl, hc, .inl ⟨rfl, ⟨h1, h2.1, h2.2⟩, hD⟩⟩
  refine (jNote_full B F s N L ln A m w hw h hGd hlk hxb hWv h40 (by omega) hm1 (by omega) (by omega) hi1 hi2 h1 (by omega)).mono ?_
  rintro e w' ⟨rfl, hb⟩
  exact ⟨3, rfl, Chg.of_below F hb, .inr ⟨by decide, fun q => h2 ⟨q.2.1, q.2.2⟩, h.keep hb⟩⟩
 refine (jNote_no B F s N L ln (A : Nat) (m : Nat) w h hGd hlk hxb h1).mono ?_
 rintro e w' ⟨rfl, hb⟩
 exact ⟨8, rfl, Chg.of_below F hb, .inr ⟨by decide, fun q => h1 q.1, h.keep hb⟩⟩
end Go.Proofs.YtkkbngcgphlikaaGreatDoor
end
section
namespace Go.Proofs.YtkkbngcgphlikaaGreatDoor
open Go.Lib Go.RowKit Go.ChangeShapes Go.WideShapes Go.Deep Go.Shelf
theorem logs_none {t : List Nat} (ho : t.all okN = true) (hc : calmT t = true) (ln : Int) : logsT t ln = [] := by
 unfold logsT
 rw [if_pos ho]
 unfold logsR
 refine List.flatMap_eq_nil_iff.2 (fun n hn => ?_)
 unfold logsN
 refine List.filter_eq_nil_iff.2 (fun i hi => ?_)
 intro h
 unfold isLog at h
 simp only [Bool.and_eq_true, decide_eq_true_eq] at h
 have hi2 := List.mem_range.1 hi
 have hx := List.all_eq_true.1 hc (t.getD i 0) (by rw [List.getD_eq_getElem?_getD, List.getElem?_eq_getElem hi2]; exact List.getElem_mem _)
 simp at hx
 simp at h
 omega
theorem stk_pool {s : Sk} {N L G : Nat} {R : List Bl} (h : StkP s (stockL s) N L G R) (hW : WL (stockL s)) : PoolX (stockL s) N L G ∧ ∀ ln : Int, logsT (tabW (stockL s) L) ln = [] := by
 obtain ⟨r1, r2⟩ := rightT_t h.right
 have hl := h.len
 have hG := h.gn
 have hn := h.hN
 have h1 := h.l3
 have h2 := h.g8
 have htl : (tabW (stockL s) L).length = G := by rw [tab_len (by rw [hl]; exact h.g), hl, hG]
 refine ⟨⟨hl, h.g, hG, hn, by omega, h.w3, h.ok, h.mks, fun p hp => ?_, hW⟩, fun ln => logs_none r1 h.calm ln⟩
 have e := tab_at (I := stockL s) (L := L) (i := p) (by rw [hl, hG]; exact hp)
 have hm : (tabW (stockL s) L).getD p 0 ∈ tabW (stockL s) L := by
  rw [List.getD_eq_getElem?_getD, List.getElem?_eq_getElem (by omega)]
  exact List.getElem_mem _
 rw [← e]
 refine ⟨List.all_eq_true.1 r1 _ hm, ?_⟩
 have hc := List.all_eq_true.1 h.calm _ hm
 intro q
 rw [q] at hc
 exact absurd hc (by decide)
theorem dv0_x (x : List Nat) : ∀ i, i < x.length → ∀ u, PV (dv0 x) i u → u = x.getD i 0 := fun i _ u hu => by
 rcases hu with q | q | q
 ·exact q
 ·cases q
 ·cases q
def Cln (N : Nat) (s : Dv) : Prop := ∀ i : Nat, i < N → s.c (i : Int) = none
theorem done_alive {s : Dv} (h : (fenceD s).dead = false) : doneD s = true := by
 cases hd : doneD s with
 | true => rfl
 | false =>
   exfalso
   unfold fenceD at h
   rw [if_neg (by rw [hd]; decide)] at h
   rw [done_of h] at hd
   cases hd
theorem cln_fenceL {s : Dv} {N m : Nat} (hg : GoodJ s N m) (l : List Sp) (hd : (fenceL s l).dead = false) (h : ∀ i : Nat, i < N → s.c (i : Int) = none ∨ ∃ x ∈ l, x.1 ≤ (i : Int) ∧ (i : Int) < x.1 + x.2) : Cln N (fenceL s l) := fun i hi => by
 have hi2 : i < s.L.length := by rw [hg.len]; exact hi
 have hfc : (flushL s l).c (i : Int) = s.c (i : Int) := by rw [flushL_c]
 cases hc : s.c (i : Int) with
 | none =>
   have hf := (fence_of (done_alive hd)).2.2.1 i (by rw [flushL_L]; exact hi2)
   show (fenceD (flushL s l)).c (i : Int) = none
   rw [hf, hfc, hc]
   split <;> rfl
 | some v =>
   rcases h i hi with q | q
   ·rw [hc] at q; cases q
   ·have h1 := flushL_inA l (alive_fence hd) hi2 hc q
    exact (fence_cl hd (by rw [flushL_L]; exact hi2) h1 (by rw [hfc]; exact hc)).2.1
theorem cln_lay {s : Dv} {N m : Nat} (hg : GoodJ s N m) (x : Int) (v : Nat) (hd : (layD s x v).dead = false) (h : Cln N s) : Cln N (layD s x v) := by
 rw [layD_L] at hd ⊢
 refine cln_fenceL (hg.store x v) _ hd (fun i hi => ?_)
 by_cases e : (i : Int) = x
 ·exact .inr ⟨(x, 1), by simp, by simp only []; omega, by simp only []; omega⟩
 left
 rw [(store_L s x v).2.2 _ e]
 exact h i hi
theorem stoR_ne {s : Dv} {room : List Sp} {ws : List Nat} {y : Int} : ∀ k, (∀ i, i < k → ¬ y = atL room (i : Nat)) → (stoR s room ws k).c y = s.c y
 | 0, _ => rfl
 | k + 1, h => by
   rw [stoR_succ, (store_L _ _ _).2.2 y (h k (by omega))]
   exact stoR_ne k (fun i hi => h i (by omega))
theorem cln_note {s : Dv} {N k0 : Nat} (hg : GoodJ s N k0) (hN : 1 ≤ N) (L ln A m : Nat) (hd : (noteD s N L ln A m).dead = false) (h : Cln N s) (hcov : ∀ i, i < m + 2 → ∃ x ∈ roomJ s N L ln m, x.1 ≤ atL (roomJ s N L ln m) (i : Nat) ∧ atL (roomJ s N L ln m) (i : Nat) < x.1 + x.2) : Cln N (noteD s N L ln A m) := by
 unfold noteD at hd ⊢
 have g1 := GoodJ.stoR hg (roomJ s N L ln m) (noteL (viewD s) (curG (loadD s (10 + (ln : Int)))) A m) (m + 2)
 refine cln_lay (GoodJ.fences hN _ g1) _ _ hd (cln_fenceL g1 _ (alive_lay hd) (fun i hi => ?_))
 by_cases e : ∃ j, j < m + 2 ∧ (i : Int) = atL (roomJ s N L ln m) (j : Nat)
 ·obtain ⟨j, hj, e⟩ := e
  obtain ⟨x, hx, q⟩ := hcov j hj
  exact .inr ⟨x, hx, by rw [e]; exact q⟩
 left
 rw [stoR_ne _ (fun j hj q => e ⟨j, hj, q⟩)]
 exact h i hi
theorem cln_keys {N : Nat} {s : Dv} (h : Cln N s) : keysL N s.c = [] := by
 unfold keysL
 refine List.filter_eq_nil_iff.2 (fun x hx => ?_)
 obtain ⟨i, hi, rfl⟩ := List.mem_map.1 hx
 have := h i (List.mem_range.1 hi)
 show ¬ (s.c (i : Int)).isSome = true
 rw [this]
 simp
theorem cut_one {a m : Nat} (hm : m ≤ 30) : cutL [((a : Int), 32)] (((0 : Nat) : Int), ((m + 2 : Nat) : Int)) = [((a : Int), ((m + 2 : Nat) : Int))] := by
 unfold cutL
 rw [if_neg (by simp only []; omega), if_pos (by rw [totS_cons, totS_nil]; simp only []; omega)]
 simp only [interL, inter1]
 rw [if_pos (by omega), List.append_nil]
 congr 2 <;> omega
theorem at_one {a m j : Nat} (ha : a ≤ 100000) (hm : m ≤ 30) (hj : j < m + 2) : atL [((a : Int), ((m + 2 : Nat) : Int))] (j : Nat) = ((a + j : Nat) : Int) := by
 rw [atL_places (fun x hx => by rw [List.mem_singleton] at hx; subst hx; unfold PB; simp only []; omega) (by rw [totS_cons, totS_nil]; simp only []; omega)]
 unfold placesL pwL
 simp only [List.flatMap_cons, List.flatMap_nil, List.append_nil, Int.toNat_natCast]
 rw [List.getD_eq_getElem?_getD, List.getElem?_map, List.getElem?_range hj]
 show ((a : Int) + (j : Int)) = _
 omega
structure OneN (x : List Nat) (N L ln A m : Nat) (s1 s2 : Dv) : Prop where
 g1 : GoodJ s1 N (N + 2)
 w1 : WD s1
 ok : noteOk s1 N L ln m
 st2 : s2.steps = (m : Int) + 10
 d2 : s2.dead = false
 f2 : s2.fuse = 0
 g2 : GoodJ s2 N (10 * N + 100)
 w2 : WD s2
 cl : keysL N s2.c = []
 same : ∀ i, i < N → ¬ x.getD i 0 = (viewD s2).getD i 0 → i = 10 + ln ∨ (10 + L + ln * 72 ≤ i ∧ i < 10 + L + ln * 72 + m + 2)
 mk2 : loadD s2 (10 + (ln : Int)) = 1 + (m + 2) * 4 + 1 * 65536
theorem noteOne {x : List Nat} {N L G ln A m : Nat} (hx : PoolX x N L G) (hN5 : N ≤ 500) (hG8 : G ≤ 8) (hln : ln < L) (hlog : logsT (tabW x L) (ln : Nat) = []) (hA : 10 + 73 * L + G ≤ A) (hAm : A + m ≤ N) (hm1 : 1 ≤ m) (hm6 : m ≤ 6) :
 OneN x N L ln A m (layD (dv0 x) (10 + (ln : Int)) (begW (loadD (dv0 x) (10 + (ln : Int))))) (noteD (layD (dv0 x) (10 + (ln : Int)) (begW (loadD (dv0 x) (10 + (ln : Int))))) N L ln A m) := by
 have hN := hx.hN
 have ec : (10 : Int) + (ln : Int) = ((10 + ln : Nat) : Int) := by omega
 have g0 : GoodJ (dv0 x) N 0 := by have h := GoodJ.zero x; rw [hx.len] at h; exact h
 have hi0 := begin_inv hx hln (Nat.le_refl _) g0 (fun i hi => dv0_x x i (by rw [hx.len]; exact hi)) hlog
 have hh : hasD (dv0 x) (10 + (ln : Int)) = true := by rw [ec]; exact has_of (by rw [g0.len]; omega)
 obtain ⟨t1, t2, t3⟩ := steps_lay (s := dv0 x) rfl rfl hh (begW (loadD (dv0 x) (10 + (ln : Int))))
 have gg1 : GoodJ (layD (dv0 x) (10 + (ln : Int)) (begW (loadD (dv0 x) (10 + (ln : Int))))) N (N + 2) := (g0.lay (by omega) _ _).mono (by omega)
 have hc0 : Cln N (dv0 x) := fun i _ => rfl
 have hc1 := cln_lay g0 (10 + (ln : Int)) (begW (loadD (dv0 x) (10 + (ln : Int)))) t2 hc0
 have hv0 : ∀ i : Nat, i < N → i ≠ 10 + ln → loadD (layD (dv0 x) (10 + (ln : Int)) (begW (loadD (dv0 x) (10 + (ln : Int))))) (i : Int) = x.getD i 0 := fun i hi hne => by
  rw [load_lay_ne g0 (by omega) _ _ (by omega)]
  exact dv0_x x i (by rw [hx.len]; exact hi) _ (load_PV (by rw [g0.len]; exact hi))
 have hl0 : begW (loadD (dv0 x) (10 + (ln : Int))) = 1 + 0 * 4 + 1 * 65536 := by
  have h0 : loadD (dv0 x) (10 + (ln : Int)) = 0 := by
   rw [ec]
   exact (dv0_x x _ (by rw [hx.len]; omega) _ (load_PV (by rw [g0.len]; omega))).trans (hx.mks ln hln)
  rw [h0]; decide
 have hm1' : loadD (layD (dv0 x) (10 + (ln : Int)) (begW (loadD (dv0 x) (10 + (ln : Int))))) (10 + (ln : Int)) = 1 + 0 * 4 + 1 * 65536 := by
  rw [← hl0]
  have q : (layD (dv0 x) ((10 + ln : Nat) : Int) (begW (loadD (dv0 x) (10 + (ln : Int))))).dead = false := by rw [← ec]; exact t2
  have h := (lay_cl q (by rw [g0.len]; omega)).2.2
  rw [ec]
  rw [ec] at h
  exact h _ (load_PV (by rw [lay_len, g0.len]; omega))
 have hlp : logP (viewD (layD (dv0 x) (10 + (ln : Int)) (begW (loadD (dv0 x) (10 + (ln : Int)))))) (N : Nat) (L : Nat) (ln : Nat) = [(((10 + L + ln * 72 : Nat) : Int), 32)] := by
  rcases hi0.st with ⟨hd, _⟩ | ⟨_, g, es, Y, Fr, q1, q2, q3, q4, q5⟩
  ·rw [t2] at hd; cases hd
  obtain ⟨p1, p2, p3, p4, p5⟩ := q1.pool hx hln (view_img q2 hi0.len)
  rw [p5, ← p4]
  have ht : tabW (viewD (layD (dv0 x) (10 + (ln : Int)) (begW (loadD (dv0 x) (10 + (ln : Int)))))) L = tabW x L := tab_same hx.g hx.gn hx.len (by rw [view_len, gg1.len]) (fun p hp => by
   rw [view_at _ (by rw [gg1.len]; omega)]
   exact hv0 _ (by omega) (by omega))
  unfold logSp
  rw [ht, hlog]
  rfl
 have hok := hi0.room hx hln t2 (m := m) (by omega) (by omega)
 have hW1 := hi0.wd
 obtain ⟨s1, hs1⟩ : ∃ z, layD (dv0 x) (10 + (ln : Int)) (begW (loadD (dv0 x) (10 + (ln : Int)))) = z := ⟨_, rfl⟩
 rw [hs1] at hi0 t1 t2 t3 gg1 hc1 hv0 hm1' hlp hok hW1 ⊢
 obtain ⟨c1, c2, c3⟩ := cur_mk (c := 0) (g := 1) (by omega) (by omega)
 have hr : roomJ s1 N L ln m = [(((10 + L + ln * 72 : Nat) : Int), ((m + 2 : Nat) : Int))] := by
  unfold roomJ
  rw [hm1', c2, hlp]
  exact cut_one (by omega)
 have hat : ∀ i, i < m + 2 → atL (roomJ s1 N L ln m) (i : Nat) = ((10 + L + ln * 72 + i : Nat) : Int) := fun i hi => by rw [hr]; exact at_one (by omega) (by omega) hi
 have hhs : ∀ i, i < m + 2 → hasD s1 (atL (roomJ s1 N L ln m) (i : Nat)) = true := fun i hi => by
  rw [hat i hi]
  exact has_of (by rw [gg1.len]; omega)
 obtain ⟨u1, u2, u3⟩ := steps_note (A := A) t2 t3 hhs (by rw [ec]; exact has_of (by rw [gg1.len]; omega))
 rw [hr] at u1
 have hgn := gg1.note (by omega) L ln A m
 rw [hr] at hgn
 have hi2 := hi0.note hx hln (Nat.le_refl _) gg1 hA hAm hm1 (by omega) hok.2.1 hok.2.2
 refine ⟨gg1, hW1, hok, by rw [u1, t1]; show (0 : Int) + 3 + _ + _ + 4 = _; simp; omega, u2, u3, hgn.mono (by simp; omega), hi2.wd, ?_, fun i hi hne => ?_, ?_⟩
 ·refine cln_keys (cln_note gg1 (by omega) L ln A m u2 hc1 (fun i hi => ?_))
  rw [hat i hi, hr]
  exact ⟨(((10 + L + ln * 72 : Nat) : Int), ((m + 2 : Nat) : Int)), by simp, by show ((10 + L + ln * 72 : Nat) : Int) ≤ _; omega, by show _ < ((10 + L + ln * 72 : Nat) : Int) + ((m + 2 : Nat) : Int); omega⟩
 ·by_cases e1 : i = 10 + ln
  ·exact .inl e1
  by_cases e2 : 10 + L + ln * 72 ≤ i ∧ i < 10 + L + ln * 72 + m + 2
  ·exact .inr e2
  exfalso
  refine hne ?_
  rw [view_at _ (by rw [hgn.len]; exact hi), load_note_ne gg1 (by omega) (by omega) (fun j hj => by rw [hat j hj]; omega)]
  exact (hv0 i hi e1).symm
 have e : loadD (noteD s1 N L ln A m) (10 + (ln : Int)) = 1 + (curC (loadD s1 (10 + (ln : Int))) + (m + 2)) * 4 + curG (loadD s1 (10 + (ln : Int))) * 65536 := by
  have hd := u2
  unfold noteD at hd ⊢
  rw [ec] at hd ⊢
  exact (lay_cl hd (by rw [fenceL_len, (stoR_L _ _ _ _).1, gg1.len]; omega)).2.2 _ (load_PV (by rw [lay_len, fenceL_len, (stoR_L _ _ _ _).1, gg1.len]; omega))
 rw [e, hm1', c2, c3]
 omega
end Go.Proofs.YtkkbngcgphlikaaGreatDoor
end
