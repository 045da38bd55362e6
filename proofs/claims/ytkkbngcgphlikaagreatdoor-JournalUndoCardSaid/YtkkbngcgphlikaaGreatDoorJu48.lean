/-
  Part of the proof of JournalUndo.
-/
import Derived.Test.YtkkbngcgphlikaaGreatDoorJu43
import Derived.Test.YtkkbngcgphlikaaGreatDoorJu44
import Derived.Test.YtkkbngcgphlikaaGreatDoorJu47
import Derived.Test.YtkkbngcgphlikaaGreatDoorJu0
set_option maxRecDepth 10000
set_option maxHeartbeats 8000000
set_option linter.unusedVariables false
set_option linter.unusedSimpArgs false
namespace Go.Proofs.YtkkbngcgphlikaaGreatDoor
open Go.Lib Go.RowKit Go.ChangeShapes Go.WideShapes Go.Deep Go.Shelf
theorem WD.zero {l : List Nat} (h : WL l) : WD (dv0 l) := fun i hi v hv => by
 rcases hv with q | q | q
 ·rw [q]; exact h.at i hi
 ·cases q
 ·cases q
theorem GoodJ.note {s : Dv} {N k0 : Nat} (hg : GoodJ s N k0) (hN : 1 ≤ N) (L ln A m : Nat) : GoodJ (noteD s N L ln A m) N (k0 + (m + 2) + (roomJ s N L ln m).length * N + 1 + N + 2) :=
 (GoodJ.fences hN _ (GoodJ.stoR hg _ _ (m + 2))).lay hN _ _
def k0J : Sk := { a := 0, b := 0, tiles := [], types := [], less := [], ep := 0, root := 0, fill := [] }
theorem k0_few : fewS k0J = true := by decide
theorem k0_B : SkB k0J := ⟨by decide, by decide, fun x hx => (by cases hx), fun x hx => (by cases hx), fun x hx => (by cases hx), by decide, by decide, fun x hx => (by cases hx)⟩
def a0S : Dv := dv0 (stockL k0J)
def a1S : Dv := layD a0S (10 + ((0 : Nat) : Int)) (begW (loadD a0S (10 + ((0 : Nat) : Int))))
def a2S : Dv := noteD a1S 116 1 0 84 2
theorem a_len : (stockL k0J).length = 116 := by decide +kernel
theorem a_l0 : loadD a0S (10 + ((0 : Nat) : Int)) < 18446744073709551616 := by decide +kernel
theorem a_st1 : a1S.steps = 3 := by decide +kernel
theorem a_l1 : loadD a1S (10 + ((0 : Nat) : Int)) = 65537 := by decide +kernel
theorem a_tot : totS (logP (viewD a1S) ((116 : Nat) : Int) ((1 : Nat) : Int) ((0 : Nat) : Int)) = 32 := by decide +kernel
theorem a_room : (roomJ a1S 116 1 0 2).length = 1 := by decide +kernel
theorem a_st2 : a2S.steps = 12 := by decide +kernel
theorem a_l2 : loadD a2S (10 + ((0 : Nat) : Int)) = 65553 := by decide +kernel
theorem a_in : inB 116 1 ((84 : Nat) : Int) = true ∧ inB 116 1 (((84 : Nat) : Int) + ((2 : Nat) : Int) - 1) = true ∧ inB 116 1 83 = false := by decide +kernel
theorem a_cm : CalmW (tabW (viewD a1S) ((viewD a1S).getD 3 0)) := by unfold CalmW; decide +kernel
theorem a_lk : lOk ((116 : Nat) : Int) ((1 : Nat) : Int) ((0 : Nat) : Int) = true := by decide
theorem awake19 (w : World) (hw : Lw w) : Calls Tryz.prog 9 #[] w fun e w' => e = .returned (.bool true) ∧ Below w.heap.size w w' := by
 have hSk := Stocked_any k0J (.slice none 0 0) (.slice none 0 0) (.slice none 0 0) (.slice none 0 0) w hw ⟨⟨none, 0, rfl, fun h => absurd h (by decide)⟩, ⟨none, 0, rfl, fun h => absurd h (by decide)⟩, ⟨none, 0, rfl, fun h => absurd h (by decide)⟩, ⟨none, 0, rfl, fun h => absurd h (by decide)⟩⟩ k0_B k0_few
 replace hSk : Calls Tryz.prog 12 #[.agg #[.int .u8 0, .int .u8 0, .slice none 0 0, .slice none 0 0, .slice none 0 0, .int .u32 0, .int .u8 0, .slice none 0 0]] w (fun e w' => ∃ v', e = .returned v' ∧ OwnU w' w.heap.size v' (stockL k0J) ∧ Hid (WL (stockL k0J)) ∧ Below w.heap.size w w') := hSk
 have hlen := lh a_len
 have g0 : GoodJ a0S 116 0 := by have h := GoodJ.zero (stockL k0J); rw [a_len] at h; exact h
 have g1 : GoodJ a1S 116 118 := g0.lay (by decide) _ _
 have g2 : GoodJ a2S 116 500 := (g1.note (by decide) 1 0 84 2).mono (by rw [a_room]; decide)
 have e1 := lh a_st1
 have e2 := lh a_st2
 have hOp := lh (fun v w1 (hv : KL .u64 w1 v (stockL k0J)) => show Calls Tryz.prog 14 #[v] w1 (fun e w' => ∃ B F, e = .returned (.tuple #[.pointer (some ⟨B, 0, none⟩), .int .i64 0]) ∧ DvAt w' B F a0S ∧ (∀ k, F k → w1.heap.size ≤ k) ∧ Below w1.heap.size w1 w') from dOpen v (stockL k0J) w1 (by rw [a_len]; decide) (by rw [a_len]; decide) hv)
 have hBe := lh (fun B F w1 (h : DvAt w1 B F a0S) => show Calls Tryz.prog 42 #[.pointer (some ⟨B, 0, none⟩), .agg #[.int .i64 116, .int .i64 1], .int .i64 0] w1 (fun e w' => e = .returned (.tuple #[]) ∧ DvAt w' B F a1S ∧ Chg F w1 w') from jBegin B F a0S 116 1 0 0 w1 h g0 (by decide) (by decide) (by decide) a_lk (by decide) a_l0)
 have hN1 := lh (fun B F w1 (h : DvAt w1 B F a1S) (hl : Lw w1) (hW : WD a1S) => show Calls Tryz.prog 34 #[.pointer (some ⟨B, 0, none⟩), .agg #[.int .i64 116, .int .i64 1], .int .i64 0, .agg #[.int .i64 84, .int .i64 2]] w1 (fun e w' => e = .returned (.int .i64 0) ∧ DvAt w' B F a2S ∧ Chg F w1 w') from
  jNote_ok B F a1S 116 1 0 84 2 w1 hl h 118 g1 (by decide) (by decide) a_lk (by rw [a_l1]; decide) (viewD_WL hW) (fun _ => ⟨h40J (by rw [view_len, g1.len]; decide) _, a_cm⟩) (by decide) (by decide) (by decide) (by decide) a_in.1 a_in.2.1 (by rw [a_l1]; decide) (by rw [a_l1, a_tot]; decide) (by rw [a_l1]; decide) (by rw [a_room]; decide) (roomJ_PS a1S 2 (by decide) (by decide)))
 have hN2 := lh (fun B F w1 (h : DvAt w1 B F a2S) => show Calls Tryz.prog 34 #[.pointer (some ⟨B, 0, none⟩), .agg #[.int .i64 116, .int .i64 1], .int .i64 0, .agg #[.int .i64 83, .int .i64 2]] w1 (fun e w' => e = .returned (.int .i64 13) ∧ Below w1.heap.size w1 w') from
  jNote_range B F a2S 116 1 0 83 2 w1 h (g2.good (by decide) (by decide) (by decide)) a_lk (by rw [a_l2]; decide) (by decide) (by decide) (by rw [a_l2]; decide) (.inr (.inr (.inl a_in.2.2))))
 have hS1 := lh (fun B F w1 (h : DvAt w1 B F a1S) => show Calls Tryz.prog 43 #[.pointer (some ⟨B, 0, none⟩)] w1 (fun e w' => e = .returned (.int .i64 3) ∧ w' = w1) from by
  have q := dSteps B F a1S w1 h
  rw [a_st1] at q
  exact q)
 have hS2 := lh (fun B F w1 (h : DvAt w1 B F a2S) => show Calls Tryz.prog 43 #[.pointer (some ⟨B, 0, none⟩)] w1 (fun e w' => e = .returned (.int .i64 12) ∧ w' = w1) from by
  have q := dSteps B F a2S w1 h
  rw [a_st2] at q
  exact q)
 have hVw := lh (fun B F w1 (h : DvAt w1 B F a2S) => show Calls Tryz.prog 26 #[.pointer (some ⟨B, 0, none⟩)] w1 (fun e w' => ∃ A c, e = .returned (.slice A 116 c) ∧ Below w1.heap.size w1 w') from
  (jView B F a2S w1 h (g2.good (by decide) (by decide) (by decide))).mono (by
    rintro e w' ⟨v', rfl, hO, hb⟩
    obtain ⟨A, c, hv, -⟩ := OwnU.form hO
    rw [view_len, g2.len] at hv
    exact ⟨A, c, by rw [hv], hb⟩))
 have hWD := lh (fun (h : WL (stockL k0J)) => show WD a1S from (WD.zero h).lay _ (by decide +kernel))
 generalize stockL k0J = X at *
 generalize a0S = s0 at *
 generalize a1S = s1 at *
 generalize a2S = s2 at *
 have hwk := lh (fun w1 (hb : Below w.heap.size w w1) => hw.keep hb)
 clear g0 g1 g2 e1 e2 hw
 go_enter Tryz.func9, Tryz.ntmps9
 go_wp2_with fail
 refine hSk.mono ?_
 rintro e w1 ⟨v1, rfl, hO1, hW, hB1⟩
 obtain ⟨A1, c1, hv1, -⟩ := OwnU.form hO1
 rw [hlen.out] at hv1
 cases hv1
 have hk1 := hO1.kl
 have e2 := bZ w1 (.cells #[.int .i64 116, .int .i64 1] (37 : Nat))
 have gG := HB.new w1 #[.int .i64 116, .int .i64 1] (37 : Nat)
 obtain ⟨w2, hw2⟩ : ∃ z, w1.alloc (.cells #[.int .i64 116, .int .i64 1] (37 : Nat)) = z := ⟨_, rfl⟩
 obtain ⟨C, hC⟩ : ∃ C, w1.heap.size = C := ⟨_, rfl⟩
 rw [hw2] at e2 gG
 rw [hC] at gG
 have hB2 := hB1.trans (e2.mono hB1.size)
 have hk2 := hk1.keep e2
 have hOp2 := hOp.out _ _ hk2
 clear hSk hO1 hk1 hk2 e2 hOp hB1
 subst hw2
 go_wp2_with fail
 refine hOp2.mono ?_
 rintro e w3 ⟨B, F, rfl, hD3, hF, hb3⟩
 have hF0 : ∀ k, F k → w.heap.size ≤ k := fun k q => Nat.le_trans hB2.size (hF k q)
 have hnC : ¬ F C := fun q => by have h1 := hF C q; have h2 := gG.lt; omega
 have hB3 := hB2.trans (hb3.mono hB2.size)
 have gG3 := gG.keep hb3
 obtain ⟨q0, q1⟩ := gG3.c2
 clear hOp2 hb3 gG hB2
 replace hF := lh hF
 replace hF0 := lh hF0
 go_wp2_with fail
 refine (hBe.out B F _ hD3).mono ?_
 rintro e w4 ⟨rfl, hD4, hc4⟩
 have hB4 := hB3.trans (hc4.below hF0.out hB3.size)
 have gG4 := gG3.chgJ hc4 hnC
 obtain ⟨r0, r1⟩ := gG4.c2
 clear hD3 hBe hB3 gG3 hc4 q0 q1
 go_wp2_with fail
 refine (hS1.out B F _ hD4).mono ?_
 rintro e w5 ⟨rfl, rfl⟩
 clear hS1
 go_wp2_with fail
 refine (hN1.out B F _ hD4 (hwk.out _ hB4) (hWD.out hW.out)).mono ?_
 rintro e w6 ⟨rfl, hD6, hc6⟩
 have hB6 := hB4.trans (hc6.below hF0.out hB4.size)
 have gG6 := gG4.chgJ hc6 hnC
 obtain ⟨t0, t1⟩ := gG6.c2
 clear hD4 hN1 hB4 gG4 hc6 r0 r1
 go_wp2_with fail
 refine (hS2.out B F _ hD6).mono ?_
 rintro e w7 ⟨rfl, rfl⟩
 clear hS2
 go_wp2_with fail
 refine (hN2.out B F _ hD6).mono ?_
 rintro e w8 ⟨rfl, hb8⟩
 have hB8 := hB6.trans (hb8.mono hB6.size)
 have hD8 := hD6.keep hb8
 clear hD6 hN2 hB6 gG6 hb8 t0 t1
 go_wp2_with fail
 refine (hVw.out B F _ hD8).mono ?_
 rintro e w9 ⟨A9, c9, rfl, hb9⟩
 have hB9 := hB8.trans (hb9.mono hB8.size)
 go_wp2_with fail
 go_ret
 exact ⟨by first | rfl | simp, hB9⟩
end Go.Proofs.YtkkbngcgphlikaaGreatDoor
