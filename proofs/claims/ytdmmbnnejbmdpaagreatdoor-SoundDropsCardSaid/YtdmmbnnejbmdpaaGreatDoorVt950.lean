/-
  Part of the proof of SoundApart,SoundTwins,SoundWords.
-/
import Derived.Test.YtdmmbnnejbmdpaaGreatDoorVt939
import Derived.Test.YtdmmbnnejbmdpaaGreatDoorVt946
import Derived.Test.YtdmmbnnejbmdpaaGreatDoorVt949
import Derived.Test.YtdmmbnnejbmdpaaGreatDoorVt90
set_option maxRecDepth 10000
set_option maxHeartbeats 2000000
set_option linter.unusedVariables false
set_option linter.unusedSimpArgs false
section
namespace Go.Proofs.YtdmmbnnejbmdpaaGreatDoor
open Go.Lib Go.RowKit Go.ChangeShapes Go.WideShapes Go.Deep Go.Shelf
theorem soundTwins (s : Sk) (vT vY vE vF : Value) (a b ep : Nat) (ha : a < 256) (hb9 : b < 256) (hep : ep < 18446744073709551616) (w : World) (hw : Lw w) (hM : SkM w vT vY vE vF s) (hB : SkB s) :
 Calls Tryz.prog 9 #[skV s vT vY vE vF, .int .u8 (a : Nat), .int .u8 (b : Nat), .int .u64 (ep : Nat)] w fun e w' => e = .returned (.bool true) ∧ Below w.heap.size w w' := by
 obtain ⟨AT, cT, AY, cY, AE, cE, AF, cF, rfl, rfl, rfl, rfl⟩ := hM.sl
 have hAw := lh (fun w1 (hb : Below w.heap.size w w1) => awake16 w1 (hw.keep hb))
 have hFe := lh (fun w1 => few16 s AT AY AE AF s.tiles.length cT s.types.length cY s.less.length cE s.fill.length cF w1 rfl rfl rfl rfl)
 have hSt := lh (fun w1 (hb : Below w.heap.size w w1) (hf : fewS s = true) => Stocked_any s _ _ _ _ w1 (hw.keep hb) (hM.keep hb) hB hf)
 obtain ⟨hg, hgN, hgat, hL1, hL3, hG1, hG8⟩ := gv_geo (gvS s)
 have hslen := stockL_len s
 have hNN : gvN (gvS s) = 10 + 73 * gvL (gvS s) + 33 * gvG (gvS s) := rfl
 have hse := hB.ep
 obtain ⟨R, hP⟩ := stock_parts hB
 have hwk := lh (fun w1 (hb : Below w.heap.size w w1) => hw.keep hb)
 obtain ⟨X, hX⟩ : ∃ X, stockL s = X := ⟨_, rfl⟩
 obtain ⟨N, hN⟩ : ∃ N, gvN (gvS s) = N := ⟨_, rfl⟩
 obtain ⟨L, hL⟩ : ∃ L, gvL (gvS s) = L := ⟨_, rfl⟩
 obtain ⟨G, hG⟩ : ∃ G, gvG (gvS s) = G := ⟨_, rfl⟩
 rw [hX] at hSt hslen hP
 rw [hN, hL, hG] at hP
 rw [hN] at hslen
 rw [hN, hL, hG] at hNN
 rw [hG] at hG1 hG8
 rw [hL] at hL1 hL3
 have hN1 : 116 ≤ N := by omega
 have hN2 : N ≤ 800 := by omega
 obtain ⟨tl, -⟩ := hP.tell hse
 obtain ⟨n, hnR⟩ : ∃ n, R.length = n := ⟨_, rfl⟩
 have hn64 := hP.n64
 rw [hnR] at tl hn64
 have hpl := lh (fun k (hk : k < n) => show ((objL X).getD k default).1.1 + 4 ≤ N from by
  obtain ⟨q1, q2, q3⟩ := hP.tell1 hse (show k < R.length by omega)
  rw [q1]; exact q2)
 have htw := lh (fun i k (hi : i < n) (hk : k < n) => show soundB (X.set (((objL X).getD i default).1.1 + 1) (X.getD (((objL X).getD k default).1.1 + 1) 0)) = decide (i = k) from by
  rw [(hP.tell1 hse (show i < R.length by omega)).1, (hP.tell1 hse (show k < R.length by omega)).1]
  exact hP.twin hse (by omega) (by omega))
 have heq := hP.epoch hse ep
 rw [hnR] at heq
 obtain ⟨O, hO⟩ : ∃ O, objL X = O := ⟨_, rfl⟩
 have hObj := lh (fun v w1 (h1 : Lw w1) (h2 : KL .u64 w1 v X) (h3 : WL X) => Objects_any v X w1 h1 h3 h2 (by omega))
 rw [hO] at hpl htw tl hObj
 have hn := lh tl
 have hse2 : IntKind.u64.wrap (s.ep : Int) = (s.ep : Int) := by rw [IntKind.wrap_u64]; omega
 clear hNN hg hgN hgat hP tl hnR hO
 obtain ⟨nT, hnT⟩ : ∃ n, s.tiles.length = n := ⟨_, rfl⟩
 obtain ⟨nY, hnY⟩ : ∃ n, s.types.length = n := ⟨_, rfl⟩
 obtain ⟨nE, hnE⟩ : ∃ n, s.less.length = n := ⟨_, rfl⟩
 obtain ⟨nF, hnF⟩ : ∃ n, s.fill.length = n := ⟨_, rfl⟩
 rw [hnT, hnY, hnE, hnF] at hFe hSt
 rw [hnT, hnY, hnE, hnF]
 unfold skV at hFe hSt ⊢
 replace hX := lh hX
 replace hN := lh hN
 replace hL := lh hL
 replace hG := lh hG
 clear hM hB hw
 have hb0 := bZ w (.cells #[.int .u8 (s.a : Nat), .int .u8 (s.b : Nat), .slice AT nT cT, .slice AY nY cY, .slice AE nE cE, .int .u32 (s.ep : Nat), .int .u8 (s.root : Nat), .slice AF nF cF] 27)
 have gS := HB.new w #[.int .u8 (s.a : Nat), .int .u8 (s.b : Nat), .slice AT nT cT, .slice AY nY cY, .slice AE nE cE, .int .u32 (s.ep : Nat), .int .u8 (s.root : Nat), .slice AF nF cF] 27
 obtain ⟨wb1, hwb1⟩ : ∃ x, w.alloc (.cells #[.int .u8 (s.a : Nat), .int .u8 (s.b : Nat), .slice AT nT cT, .slice AY nY cY, .slice AE nE cE, .int .u32 (s.ep : Nat), .int .u8 (s.root : Nat), .slice AF nF cF] 27) = x := ⟨_, rfl⟩
 have hswb1 : wb1.heap.size = w.heap.size + 1 := by rw [← hwb1]; simp
 rw [hwb1] at hb0 gS
 obtain ⟨C0, hC0⟩ : ∃ C, w.heap.size = C := ⟨_, rfl⟩
 have hB : Below w.heap.size w wb1 := hb0
 rw [hC0] at gS
 clear hb0
 go_enter Tryz.func9, Tryz.ntmps9
 subst hwb1
 go_wp2_with fail
 refine (hAw.out _ hB).mono ?_
 rintro e w1 ⟨rfl, hb1⟩
 have hB1 := hB.trans (hb1.mono hB.size)
 have gS1 := gS.keep hb1
 clear hAw hb1 hB gS
 have p0 := (row_cell gS1 0).1
 have p1 := (row_cell gS1 1).1
 have p2 := (row_cell gS1 2).1
 have p3 := (row_cell gS1 3).1
 have p4 := (row_cell gS1 4).1
 have p5 := (row_cell gS1 5).1
 have p6 := (row_cell gS1 6).1
 have p7 := (row_cell gS1 7).1
 go_wp2_with fail
 refine (hFe.out _).mono ?_
 rintro e w2 ⟨rfl, hb2⟩
 have hB2 := hB1.trans (hb2.mono hB1.size)
 have gS2 := gS1.keep hb2
 clear p0 p1 p2 p3 p4 p5 p6 p7 hb2 hB1 gS1 hFe
 cases hfew : fewS s with
 | false =>
   go_wp2_with fail
   go_ret
   exact ⟨rfl, hB2⟩
 | true =>
   have hSt2 := hSt.out _ hB2 hfew
   clear hSt hfew
   have p0 := (row_cell gS2 0).1
   have p1 := (row_cell gS2 1).1
   have p2 := (row_cell gS2 2).1
   have p3 := (row_cell gS2 3).1
   have p4 := (row_cell gS2 4).1
   have p5 := (row_cell gS2 5).1
   have p6 := (row_cell gS2 6).1
   have p7 := (row_cell gS2 7).1
   go_wp2_with fail
   refine hSt2.mono ?_
   rintro e w3 ⟨v3, rfl, hO3, hW, hb3⟩
   have hB3 := hB2.trans (hb3.mono hB2.size)
   have gS3 := gS2.keep hb3
   obtain ⟨A3, c3, hv3, hf3⟩ := OwnU.form hO3
   rw [hslen] at hv3 hf3
   cases hv3
   obtain ⟨B, rfl, -, -⟩ := hf3 (by omega)
   have hk3 := hO3.kl
   have hc3 : N ≤ c3 := by
    obtain ⟨A9, c9, hv9, h9⟩ := hk3.form hslen
    cases hv9
    obtain ⟨_, _, _, h2, _⟩ := h9 w3 0 (Below.refl _ _) (by omega)
    exact h2
   have hbs : w.heap.size ≤ w2.heap.size := hB2.size
   clear p0 p1 p2 p3 p4 p5 p6 p7 hSt2 hb3 hf3 gS2 hB2
   obtain ⟨Bs, hBs⟩ : ∃ b, w2.heap.size = b := ⟨_, rfl⟩
   rw [hBs] at hO3 hbs
   clear hBs
   have hS3 : SpS w C0 #[.int .u8 (s.a : Nat), .int .u8 (s.b : Nat), .slice AT nT cT, .slice AY nY cY, .slice AE nE cE, .int .u32 (s.ep : Nat), .int .u8 (s.root : Nat), .slice AF nF cF] Bs B N c3 X w3 := ⟨hO3, hslen, gS3, hB3, hbs⟩
   have hOb3 := hObj.out _ w3 (hwk.out _ hB3) hk3 hW.out
   clear hO3 hk3 gS3 hB3 hObj
   go_wp2_with fail
   refine hOb3.mono ?_
   rintro e w4 ⟨v4, rfl, hO4, hb4⟩
   have hS4 := hS3.keep hb4
   obtain ⟨A4, c4, rfl, -⟩ := hO4.formJ hn.out
   obtain ⟨v6, w6, hrun, ho6, hb6⟩ := newW hS4.o.kl (by rw [hS4.l]; omega)
   obtain ⟨A6, c6, hv6, hf6⟩ := OwnU.form ho6
   rw [hslen] at hv6 hf6
   cases hv6
   obtain ⟨B6, rfl, h6B, -⟩ := hf6 (by omega)
   obtain ⟨z0, z1⟩ := ho6.cell hslen (show 9 < N by omega)
   have z2 : (9 : Int) < (N : Int) := by omega
   have ho7 := ho6.set hslen (show 9 < N by omega) (y := ep)
   have hb7 := hb6.setCell (p := ⟨B6, 9, none⟩) h6B (.int .u64 (ep : Nat))
   have hS7 := hS4.keep hb7
   have hO7 := hO4.keep hb7
   obtain ⟨z9, hz9⟩ : ∃ z, X.getD 9 0 = z := ⟨_, rfl⟩
   rw [hz9] at z0
   clear hOb3 hb4 hS3 hS4 hO4 hb6 hf6 hb7 h6B hz9 ho6
   obtain ⟨w7, hw7⟩ : ∃ x, w6.setCell ⟨B6, 9, none⟩ (.int .u64 (ep : Nat)) = x := ⟨_, rfl⟩
   rw [hw7] at ho7 hS7 hO7
   have hSo2 := sound_any _ _ w7 (hwk.out _ hS7.below) (hW.out.setN 9 ep hep) ho7.kl (by rw [List.length_set, hslen]; omega)
   rw [heq] at hSo2
   clear ho7 heq
   go_wp2_with (at_builtin; refine wpList_append_run rfl _ _ 25 rfl _ _ _ rfl rfl hrun ?_)
   clear hrun
   by_cases d1 : ep ≤ 4294967295
   case neg =>
    have d1a : ¬ (ep : Int) ≤ 4294967295 := by omega
    have d1b : decide ((ep : Int) ≤ 4294967295) = false := decide_eq_false d1a
    rw [decide_eq_false d1] at hSo2
    replace hSo2 : Calls Tryz.prog 13 #[.slice (some ⟨B6, 0, none⟩) N c6] w7 (fun e w' => e = .returned (.int .i64 7) ∧ Below w7.heap.size w7 w') := hSo2
    subst hw7
    go_wp2_with fail
    refine hSo2.mono ?_
    rintro e9 w8 ⟨rfl, hb8⟩
    have hS8 := hS7.keep hb8
    have hO8 := hO7.keep hb8
    have hB8 := hS8.below
    have gs5 := (row_cell hS8.s 5).1
    clear hSo2 hb8 hS7 hO7 z0 z1
    by_cases h2n : n < 2
    case pos =>
     have h2n' : (n : Int) < 2 := by omega
     go_wp2_with fail
     go_ret
     exact ⟨rfl, hB8⟩
    have h2n' : ¬ (n : Int) < 2 := by omega
    have r3 : ¬ (n : Int) = 0 := by omega
    have r3' : ¬ n = 0 := by omega
    obtain ⟨i, hi⟩ : ∃ m, a % n = m := ⟨_, rfl⟩
    have hin : i < n := by rw [← hi]; exact Nat.mod_lt _ (by omega)
    have r1i : (a : Int) % (n : Int) = (i : Int) := by rw [← hi]; rfl
    have r2i : (a : Int).tmod (n : Int) = (i : Int) := by rw [Int.tmod_eq_emod_of_nonneg (by omega)]; exact r1i
    have r4i : IntKind.i64.wrap (a : Int) = (a : Int) := wrapQ _ (by omega) (by omega)
    have r5i : (i : Int) < (n : Int) := by omega
    replace hi := lh hi
    obtain ⟨k, hk⟩ : ∃ m, b % n = m := ⟨_, rfl⟩
    have hkn : k < n := by rw [← hk]; exact Nat.mod_lt _ (by omega)
    have r1k : (b : Int) % (n : Int) = (k : Int) := by rw [← hk]; rfl
    have r2k : (b : Int).tmod (n : Int) = (k : Int) := by rw [Int.tmod_eq_emod_of_nonneg (by omega)]; exact r1k
    have r4k : IntKind.i64.wrap (b : Int) = (b : Int) := wrapQ _ (by omega) (by omega)
    have r5k : (k : Int) < (n : Int) := by omega
    replace hk := lh hk
    obtain ⟨A5, c5, hv5, hF5⟩ := (hO8).formJ hn.out
    cases hv5
    obtain ⟨g5, o5, d5, rfl, hc5, -, hg5, x0, -, -, -, -⟩ := hF5 w8 i (Below.refl _ _) hin
    obtain ⟨g6, o6, d6, he6, -, -, hg6, y0, -, -, -, -⟩ := hF5 w8 k (Below.refl _ _) hkn
    simp only [Option.some.injEq, Addr.mk.injEq] at he6
    obtain ⟨rfl, rfl, -⟩ := he6
    have htw := htw.out i k hin hkn
    have hpi := hpl.out i hin
    have hpk := hpl.out k hkn
    clear hF5 r1i r1k
    obtain ⟨pi, hpi2⟩ : ∃ p, (O.getD i default).1.1 = p := ⟨_, rfl⟩
    obtain ⟨pk, hpk2⟩ : ∃ p, (O.getD k default).1.1 = p := ⟨_, rfl⟩
    rw [hpi2] at x0 htw hpi
    rw [hpk2] at y0 htw hpk
    clear hpi2 hpk2
    obtain ⟨pi1, hpi1⟩ : ∃ p, pi + 1 = p := ⟨_, rfl⟩
    obtain ⟨pk1, hpk1⟩ : ∃ p, pk + 1 = p := ⟨_, rfl⟩
    rw [hpi1, hpk1] at htw
    have z1 : (pi : Int) + 1 = (pi1 : Int) := by omega
    have z2 : (pk : Int) + 1 = (pk1 : Int) := by omega
    have z3 : IntKind.i64.wrap (pi1 : Int) = (pi1 : Int) := wrapQ _ (by omega) (by omega)
    have z4 : IntKind.i64.wrap (pk1 : Int) = (pk1 : Int) := wrapQ _ (by omega) (by omega)
    have z5 : (pi1 : Int) < (N : Int) := by omega
    have z6 : (pk1 : Int) < (N : Int) := by omega
    have z7 : pi1 < N := by omega
    have z8 : pk1 < N := by omega
    obtain ⟨y, hy⟩ : ∃ y, X.getD pk1 0 = y := ⟨_, rfl⟩
    rw [hy] at htw
    obtain ⟨Xd, hXd⟩ : ∃ y, X.getD pi1 0 = y := ⟨_, rfl⟩
    have hyb : y < 18446744073709551616 := by rw [← hy]; exact hW.out.getN pk1
    have hSn := hS8.set pi1 y z7
    have hWn := hW.out.setN pi1 y hyb
    have hCF := lh (fun w' (hb : Below w8.heap.size w8 w') => show (w'.cell? ⟨g5, o5 + i * 4, none⟩ = some (.int .i64 (pi : Nat)) ∧ w'.cell? ⟨g5, o5 + k * 4, none⟩ = some (.int .i64 (pk : Nat)) ∧ w'.cell? ⟨B, pk1, none⟩ = some (.int .u64 (y : Nat))) ∧ (w'.cell? ⟨B, pi1, none⟩ = some (.int .u64 (Xd : Nat)) ∧ w'.frozen? ⟨B, pi1, none⟩ = false) from ⟨⟨((bcell hb).1 _ _ hg5).trans x0, ((bcell hb).1 _ _ hg6).trans y0, by rw [← hy]; exact ((hS8.keep hb).o.cell hS8.l z8).1⟩, by rw [← hXd]; exact (hS8.keep hb).o.cell hS8.l z7⟩)
    replace hXd := lh hXd
    replace hy := lh hy
    replace hpi1 := lh hpi1
    replace hpk1 := lh hpk1
    clear x0 y0 hpl
    go_wp2_with fail
    clear gs5
    refine wp_region_tail (S := (fun w' => Below w8.heap.size w8 w')) (n := 19) (by kernel_rfl) (Below.refl _ _).drew (fun hHeld hInv => ?_) (by decide)
    refine takeHS 0 hInv ?_; clear hInv; intro hInv
    refine takeHS 1 hInv ?_; clear hInv; intro hInv
    refine takeHS 2 hInv ?_; clear hInv; intro hInv
    refine takeHS 3 hInv ?_; clear hInv; intro hInv
    refine takeHS 4 hInv ?_; clear hInv; intro hInv
    refine takeHS 5 hInv ?_; clear hInv; intro hInv
    refine takeHS 6 hInv ?_; clear hInv; intro hInv
    refine takeHS 7 hInv ?_; clear hInv; intro hInv
    refine takeHS 8 hInv ?_; clear hInv; intro hInv
    refine takeHS 9 hInv ?_; clear hInv; intro hInv
    refine takeHS 10 hInv ?_; clear hInv; intro hInv
    refine takeHS 11 hInv ?_; clear hInv; intro hInv
    refine takeHS 12 hInv ?_; clear hInv; intro hInv
    refine takeHS 13 hInv ?_; clear hInv; intro hInv
    refine takeHS 14 hInv ?_; clear hInv; intro hInv
    refine takeHS 15 hInv ?_; clear hInv; intro hInv
    refine takeHS 16 hInv ?_; clear hInv; intro hInv
    refine takeHS 17 hInv ?_; clear hInv; intro hInv
    refine takeHS 18 hInv ?_; clear hInv; intro hInv
    refine lastS 19 rfl (by decide) (by kernel_rfl) (fun K hK => ?_)
    have zz := hCF.out _ hHeld
    obtain ⟨⟨v0, v1, v2⟩, v3, v4⟩ := zz
    go_simp
    refine hK.out _ _ ?_
    clear hK K
    try simp only [Act.put,sA,sB,sC]
    refine wpAnyS_done (by kernel_rfl) ?_ _
    clear hCF hInv hHeld
    have hSm := hSn.keep (Below.refl _ _).drew
    have hBm := hSm.below
    obtain ⟨wz, hwz⟩ : ∃ x, (w8.setCell ⟨B, pi1, none⟩ (.int .u64 (y : Nat))).drew = x := ⟨_, rfl⟩
    rw [hwz] at hSm hBm
    have hSo1 := sound_any _ _ wz (hwk.out _ hBm) hWn hSm.o.kl (by rw [hSm.l]; omega)
    rw [htw] at hSo1
    clear hSn
    subst hwz
    by_cases hik : i = k
    case pos =>
     rw [decide_eq_true hik] at hSo1
     replace hSo1 : Calls Tryz.prog 13 #[.slice (some ⟨B, 0, none⟩) N c3] _ (fun e w' => e = .returned (.int .i64 0) ∧ Below _ _ w') := hSo1
     have hik1 : (i : Int) = (k : Int) := by omega
     have hik2 : ((i : Int) == (k : Int)) = true := beq_iff_eq.2 hik1
     go_wp2_with fail
     refine hSo1.mono ?_
     rintro e9 w8 ⟨rfl, hb8⟩
     have hBe := hBm.trans (hb8.mono hBm.size)
     go_wp2_with fail
     go_ret
     exact ⟨by first | rfl | simp [hik2], hBe⟩
    rw [decide_eq_false hik] at hSo1
    replace hSo1 : Calls Tryz.prog 13 #[.slice (some ⟨B, 0, none⟩) N c3] _ (fun e w' => e = .returned (.int .i64 7) ∧ Below _ _ w') := hSo1
    have hik1 : ¬ (i : Int) = (k : Int) := by omega
    have hik2 : ((i : Int) == (k : Int)) = false := beq_eq_false_iff_ne.2 hik1
    go_wp2_with fail
    refine hSo1.mono ?_
    rintro e9 w8 ⟨rfl, hb8⟩
    have hBe := hBm.trans (hb8.mono hBm.size)
    go_wp2_with fail
    go_ret
    exact ⟨by first | rfl | simp [hik2], hBe⟩
   have d1a : (ep : Int) ≤ 4294967295 := by omega
   rw [decide_eq_true d1] at hSo2
   by_cases d2 : n = 0
   case pos =>
    have d2a : (n : Int) = 0 := by omega
    have d2b : ((n : Int) == 0) = true := beq_iff_eq.2 d2a
    rw [decide_eq_true d2] at hSo2
    replace hSo2 : Calls Tryz.prog 13 #[.slice (some ⟨B6, 0, none⟩) N c6] w7 (fun e w' => e = .returned (.int .i64 0) ∧ Below w7.heap.size w7 w') := hSo2
    subst hw7
    go_wp2_with fail
    refine hSo2.mono ?_
    rintro e9 w8 ⟨rfl, hb8⟩
    have hS8 := hS7.keep hb8
    have hO8 := hO7.keep hb8
    have hB8 := hS8.below
    have gs5 := (row_cell hS8.s 5).1
    clear hSo2 hb8 hS7 hO7 z0 z1
    have h2n' : (n : Int) < 2 := by omega
    go_wp2_with fail
    go_ret
    exact ⟨rfl, hB8⟩
   have d2a : ¬ (n : Int) = 0 := by omega
   have d2b : ((n : Int) == 0) = false := beq_eq_false_iff_ne.2 d2a
   rw [decide_eq_false d2] at hSo2
   by_cases d3 : s.ep ≤ ep
   case pos =>
    have d3a : (s.ep : Int) ≤ (ep : Int) := by omega
    rw [decide_eq_true d3] at hSo2
    replace hSo2 : Calls Tryz.prog 13 #[.slice (some ⟨B6, 0, none⟩) N c6] w7 (fun e w' => e = .returned (.int .i64 0) ∧ Below w7.heap.size w7 w') := hSo2
    subst hw7
    go_wp2_with fail
    refine hSo2.mono ?_
    rintro e9 w8 ⟨rfl, hb8⟩
    have hS8 := hS7.keep hb8
    have hO8 := hO7.keep hb8
    have hB8 := hS8.below
    have gs5 := (row_cell hS8.s 5).1
    clear hSo2 hb8 hS7 hO7 z0 z1
    by_cases h2n : n < 2
    case pos =>
     have h2n' : (n : Int) < 2 := by omega
     go_wp2_with fail
     go_ret
     exact ⟨rfl, hB8⟩
    have h2n' : ¬ (n : Int) < 2 := by omega
    have r3 : ¬ (n : Int) = 0 := by omega
    have r3' : ¬ n = 0 := by omega
    obtain ⟨i, hi⟩ : ∃ m, a % n = m := ⟨_, rfl⟩
    have hin : i < n := by rw [← hi]; exact Nat.mod_lt _ (by omega)
    have r1i : (a : Int) % (n : Int) = (i : Int) := by rw [← hi]; rfl
    have r2i : (a : Int).tmod (n : Int) = (i : Int) := by rw [Int.tmod_eq_emod_of_nonneg (by omega)]; exact r1i
    have r4i : IntKind.i64.wrap (a : Int) = (a : Int) := wrapQ _ (by omega) (by omega)
    have r5i : (i : Int) < (n : Int) := by omega
    replace hi := lh hi
    obtain ⟨k, hk⟩ : ∃ m, b % n = m := ⟨_, rfl⟩
    have hkn : k < n := by rw [← hk]; exact Nat.mod_lt _ (by omega)
    have r1k : (b : Int) % (n : Int) = (k : Int) := by rw [← hk]; rfl
    have r2k : (b : Int).tmod (n : Int) = (k : Int) := by rw [Int.tmod_eq_emod_of_nonneg (by omega)]; exact r1k
    have r4k : IntKind.i64.wrap (b : Int) = (b : Int) := wrapQ _ (by omega) (by omega)
    have r5k : (k : Int) < (n : Int) := by omega
    replace hk := lh hk
    obtain ⟨A5, c5, hv5, hF5⟩ := (hO8).formJ hn.out
    cases hv5
    obtain ⟨g5, o5, d5, rfl, hc5, -, hg5, x0, -, -, -, -⟩ := hF5 w8 i (Below.refl _ _) hin
    obtain ⟨g6, o6, d6, he6, -, -, hg6, y0, -, -, -, -⟩ := hF5 w8 k (Below.refl _ _) hkn
    simp only [Option.some.injEq, Addr.mk.injEq] at he6
    obtain ⟨rfl, rfl, -⟩ := he6
    have htw := htw.out i k hin hkn
    have hpi := hpl.out i hin
    have hpk := hpl.out k hkn
    clear hF5 r1i r1k
    obtain ⟨pi, hpi2⟩ : ∃ p, (O.getD i default).1.1 = p := ⟨_, rfl⟩
    obtain ⟨pk, hpk2⟩ : ∃ p, (O.getD k default).1.1 = p := ⟨_, rfl⟩
    rw [hpi2] at x0 htw hpi
    rw [hpk2] at y0 htw hpk
    clear hpi2 hpk2
    obtain ⟨pi1, hpi1⟩ : ∃ p, pi + 1 = p := ⟨_, rfl⟩
    obtain ⟨pk1, hpk1⟩ : ∃ p, pk + 1 = p := ⟨_, rfl⟩
    rw [hpi1, hpk1] at htw
    have z1 : (pi : Int) + 1 = (pi1 : Int) := by omega
    have z2 : (pk : Int) + 1 = (pk1 : Int) := by omega
    have z3 : IntKind.i64.wrap (pi1 : Int) = (pi1 : Int) := wrapQ _ (by omega) (by omega)
    have z4 : IntKind.i64.wrap (pk1 : Int) = (pk1 : Int) := wrapQ _ (by omega) (by omega)
    have z5 : (pi1 : Int) < (N : Int) := by omega
    have z6 : (pk1 : Int) < (N : Int) := by omega
    have z7 : pi1 < N := by omega
    have z8 : pk1 < N := by omega
    obtain ⟨y, hy⟩ : ∃ y, X.getD pk1 0 = y := ⟨_, rfl⟩
    rw [hy] at htw
    obtain ⟨Xd, hXd⟩ : ∃ y, X.getD pi1 0 = y := ⟨_, rfl⟩
    have hyb : y < 18446744073709551616 := by rw [← hy]; exact hW.out.getN pk1
    have hSn := hS8.set pi1 y z7
    have hWn := hW.out.setN pi1 y hyb
    have hCF := lh (fun w' (hb : Below w8.heap.size w8 w') => show (w'.cell? ⟨g5, o5 + i * 4, none⟩ = some (.int .i64 (pi : Nat)) ∧ w'.cell? ⟨g5, o5 + k * 4, none⟩ = some (.int .i64 (pk : Nat)) ∧ w'.cell? ⟨B, pk1, none⟩ = some (.int .u64 (y : Nat))) ∧ (w'.cell? ⟨B, pi1, none⟩ = some (.int .u64 (Xd : Nat)) ∧ w'.frozen? ⟨B, pi1, none⟩ = false) from ⟨⟨((bcell hb).1 _ _ hg5).trans x0, ((bcell hb).1 _ _ hg6).trans y0, by rw [← hy]; exact ((hS8.keep hb).o.cell hS8.l z8).1⟩, by rw [← hXd]; exact (hS8.keep hb).o.cell hS8.l z7⟩)
    replace hXd := lh hXd
    replace hy := lh hy
    replace hpi1 := lh hpi1
    replace hpk1 := lh hpk1
    clear x0 y0 hpl
    go_wp2_with fail
    clear gs5
    refine wp_region_tail (S := (fun w' => Below w8.heap.size w8 w')) (n := 19) (by kernel_rfl) (Below.refl _ _).drew (fun hHeld hInv => ?_) (by decide)
    refine takeHS 0 hInv ?_; clear hInv; intro hInv
    refine takeHS 1 hInv ?_; clear hInv; intro hInv
    refine takeHS 2 hInv ?_; clear hInv; intro hInv
    refine takeHS 3 hInv ?_; clear hInv; intro hInv
    refine takeHS 4 hInv ?_; clear hInv; intro hInv
    refine takeHS 5 hInv ?_; clear hInv; intro hInv
    refine takeHS 6 hInv ?_; clear hInv; intro hInv
    refine takeHS 7 hInv ?_; clear hInv; intro hInv
    refine takeHS 8 hInv ?_; clear hInv; intro hInv
    refine takeHS 9 hInv ?_; clear hInv; intro hInv
    refine takeHS 10 hInv ?_; clear hInv; intro hInv
    refine takeHS 11 hInv ?_; clear hInv; intro hInv
    refine takeHS 12 hInv ?_; clear hInv; intro hInv
    refine takeHS 13 hInv ?_; clear hInv; intro hInv
    refine takeHS 14 hInv ?_; clear hInv; intro hInv
    refine takeHS 15 hInv ?_; clear hInv; intro hInv
    refine takeHS 16 hInv ?_; clear hInv; intro hInv
    refine takeHS 17 hInv ?_; clear hInv; intro hInv
    refine takeHS 18 hInv ?_; clear hInv; intro hInv
    refine lastS 19 rfl (by decide) (by kernel_rfl) (fun K hK => ?_)
    have zz := hCF.out _ hHeld
    obtain ⟨⟨v0, v1, v2⟩, v3, v4⟩ := zz
    go_simp
    refine hK.out _ _ ?_
    clear hK K
    try simp only [Act.put,sA,sB,sC]
    refine wpAnyS_done (by kernel_rfl) ?_ _
    clear hCF hInv hHeld
    have hSm := hSn.keep (Below.refl _ _).drew
    have hBm := hSm.below
    obtain ⟨wz, hwz⟩ : ∃ x, (w8.setCell ⟨B, pi1, none⟩ (.int .u64 (y : Nat))).drew = x := ⟨_, rfl⟩
    rw [hwz] at hSm hBm
    have hSo1 := sound_any _ _ wz (hwk.out _ hBm) hWn hSm.o.kl (by rw [hSm.l]; omega)
    rw [htw] at hSo1
    clear hSn
    subst hwz
    by_cases hik : i = k
    case pos =>
     rw [decide_eq_true hik] at hSo1
     replace hSo1 : Calls Tryz.prog 13 #[.slice (some ⟨B, 0, none⟩) N c3] _ (fun e w' => e = .returned (.int .i64 0) ∧ Below _ _ w') := hSo1
     have hik1 : (i : Int) = (k : Int) := by omega
     have hik2 : ((i : Int) == (k : Int)) = true := beq_iff_eq.2 hik1
     go_wp2_with fail
     refine hSo1.mono ?_
     rintro e9 w8 ⟨rfl, hb8⟩
     have hBe := hBm.trans (hb8.mono hBm.size)
     go_wp2_with fail
     go_ret
     exact ⟨by first | rfl | simp [hik2], hBe⟩
    rw [decide_eq_false hik] at hSo1
    replace hSo1 : Calls Tryz.prog 13 #[.slice (some ⟨B, 0, none⟩) N c3] _ (fun e w' => e = .returned (.int .i64 7) ∧ Below _ _ w') := hSo1
    have hik1 : ¬ (i : Int) = (k : Int) := by omega
    have hik2 : ((i : Int) == (k : Int)) = false := beq_eq_false_iff_ne.2 hik1
    go_wp2_with fail
    refine hSo1.mono ?_
    rintro e9 w8 ⟨rfl, hb8⟩
    have hBe := hBm.trans (hb8.mono hBm.size)
    go_wp2_with fail
    go_ret
    exact ⟨by first | rfl | simp [hik2], hBe⟩
   have d3a : ¬ (s.ep : Int) ≤ (ep : Int) := by omega
   have d3b : decide ((s.ep : Int) ≤ (ep : Int)) = false := decide_eq_false d3a
   rw [decide_eq_false d3] at hSo2
   replace hSo2 : Calls Tryz.prog 13 #[.slice (some ⟨B6, 0, none⟩) N c6] w7 (fun e w' => e = .returned (.int .i64 7) ∧ Below w7.heap.size w7 w') := hSo2
   subst hw7
   go_wp2_with fail
   refine hSo2.mono ?_
   rintro e9 w8 ⟨rfl, hb8⟩
   have hS8 := hS7.keep hb8
   have hO8 := hO7.keep hb8
   have hB8 := hS8.below
   have gs5 := (row_cell hS8.s 5).1
   clear hSo2 hb8 hS7 hO7 z0 z1
   by_cases h2n : n < 2
   case pos =>
    have h2n' : (n : Int) < 2 := by omega
    go_wp2_with fail
    go_ret
    exact ⟨rfl, hB8⟩
   have h2n' : ¬ (n : Int) < 2 := by omega
   have r3 : ¬ (n : Int) = 0 := by omega
   have r3' : ¬ n = 0 := by omega
   obtain ⟨i, hi⟩ : ∃ m, a % n = m := ⟨_, rfl⟩
   have hin : i < n := by rw [← hi]; exact Nat.mod_lt _ (by omega)
   have r1i : (a : Int) % (n : Int) = (i : Int) := by rw [← hi]; rfl
   have r2i : (a : Int).tmod (n : Int) = (i : Int) := by rw [Int.tmod_eq_emod_of_nonneg (by omega)]; exact r1i
   have r4i : IntKind.i64.wrap (a : Int) = (a : Int) := wrapQ _ (by omega) (by omega)
   have r5i : (i : Int) < (n : Int) := by omega
   replace hi := lh hi
   obtain ⟨k, hk⟩ : ∃ m, b % n = m := ⟨_, rfl⟩
   have hkn : k < n := by rw [← hk]; exact Nat.mod_lt _ (by omega)
   have r1k : (b : Int) % (n : Int) = (k : Int) := by rw [← hk]; rfl
   have r2k : (b : Int).tmod (n : Int) = (k : Int) := by rw [Int.tmod_eq_emod_of_nonneg (by omega)]; exact r1k
   have r4k : IntKind.i64.wrap (b : Int) = (b : Int) := wrapQ _ (by omega) (by omega)
   have r5k : (k : Int) < (n : Int) := by omega
   replace hk := lh hk
   obtain ⟨A5, c5, hv5, hF5⟩ := (hO8).formJ hn.out
   cases hv5
   obtain ⟨g5, o5, d5, rfl, hc5, -, hg5, x0, -, -, -, -⟩ := hF5 w8 i (Below.refl _ _) hin
   obtain ⟨g6, o6, d6, he6, -, -, hg6, y0, -, -, -, -⟩ := hF5 w8 k (Below.refl _ _) hkn
   simp only [Option.some.injEq, Addr.mk.injEq] at he6
   obtain ⟨rfl, rfl, -⟩ := he6
   have htw := htw.out i k hin hkn
   have hpi := hpl.out i hin
   have hpk := hpl.out k hkn
   clear hF5 r1i r1k
   obtain ⟨pi, hpi2⟩ : ∃ p, (O.getD i default).1.1 = p := ⟨_, rfl⟩
   obtain ⟨pk, hpk2⟩ : ∃ p, (O.getD k default).1.1 = p := ⟨_, rfl⟩
   rw [hpi2] at x0 htw hpi
   rw [hpk2] at y0 htw hpk
   clear hpi2 hpk2
   obtain ⟨pi1, hpi1⟩ : ∃ p, pi + 1 = p := ⟨_, rfl⟩
   obtain ⟨pk1, hpk1⟩ : ∃ p, pk + 1 = p := ⟨_, rfl⟩
   rw [hpi1, hpk1] at htw
   have z1 : (pi : Int) + 1 = (pi1 : Int) := by omega
   have z2 : (pk : Int) + 1 = (pk1 : Int) := by omega
   have z3 : IntKind.i64.wrap (pi1 : Int) = (pi1 : Int) := wrapQ _ (by omega) (by omega)
   have z4 : IntKind.i64.wrap (pk1 : Int) = (pk1 : Int) := wrapQ _ (by omega) (by omega)
   have z5 : (pi1 : Int) < (N : Int) := by omega
   have z6 : (pk1 : Int) < (N : Int) := by omega
   have z7 : pi1 < N := by omega
   have z8 : pk1 < N := by omega
   obtain ⟨y, hy⟩ : ∃ y, X.getD pk1 0 = y := ⟨_, rfl⟩
   rw [hy] at htw
   obtain ⟨Xd, hXd⟩ : ∃ y, X.getD pi1 0 = y := ⟨_, rfl⟩
   have hyb : y < 18446744073709551616 := by rw [← hy]; exact hW.out.getN pk1
   have hSn := hS8.set pi1 y z7
   have hWn := hW.out.setN pi1 y hyb
   have hCF := lh (fun w' (hb : Below w8.heap.size w8 w') => show (w'.cell? ⟨g5, o5 + i * 4, none⟩ = some (.int .i64 (pi : Nat)) ∧ w'.cell? ⟨g5, o5 + k * 4, none⟩ = some (.int .i64 (pk : Nat)) ∧ w'.cell? ⟨B, pk1, none⟩ = some (.int .u64 (y : Nat))) ∧ (w'.cell? ⟨B, pi1, none⟩ = some (.int .u64 (Xd : Nat)) ∧ w'.frozen? ⟨B, pi1, none⟩ = false) from ⟨⟨((bcell hb).1 _ _ hg5).trans x0, ((bcell hb).1 _ _ hg6).trans y0, by rw [← hy]; exact ((hS8.keep hb).o.cell hS8.l z8).1⟩, by rw [← hXd]; exact (hS8.keep hb).o.cell hS8.l z7⟩)
   replace hXd := lh hXd
   replace hy := lh hy
   replace hpi1 := lh hpi1
   replace hpk1 := lh hpk1
   clear x0 y0 hpl
   go_wp2_with fail
   clear gs5
   refine wp_region_tail (S := (fun w' => Below w8.heap.size w8 w')) (n := 19) (by kernel_rfl) (Below.refl _ _).drew (fun hHeld hInv => ?_) (by decide)
   refine takeHS 0 hInv ?_; clear hInv; intro hInv
   refine takeHS 1 hInv ?_; clear hInv; intro hInv
   refine takeHS 2 hInv ?_; clear hInv; intro hInv
   refine takeHS 3 hInv ?_; clear hInv; intro hInv
   refine takeHS 4 hInv ?_; clear hInv; intro hInv
   refine takeHS 5 hInv ?_; clear hInv; intro hInv
   refine takeHS 6 hInv ?_; clear hInv; intro hInv
   refine takeHS 7 hInv ?_; clear hInv; intro hInv
   refine takeHS 8 hInv ?_; clear hInv; intro hInv
   refine takeHS 9 hInv ?_; clear hInv; intro hInv
   refine takeHS 10 hInv ?_; clear hInv; intro hInv
   refine takeHS 11 hInv ?_; clear hInv; intro hInv
   refine takeHS 12 hInv ?_; clear hInv; intro hInv
   refine takeHS 13 hInv ?_; clear hInv; intro hInv
   refine takeHS 14 hInv ?_; clear hInv; intro hInv
   refine takeHS 15 hInv ?_; clear hInv; intro hInv
   refine takeHS 16 hInv ?_; clear hInv; intro hInv
   refine takeHS 17 hInv ?_; clear hInv; intro hInv
   refine takeHS 18 hInv ?_; clear hInv; intro hInv
   refine lastS 19 rfl (by decide) (by kernel_rfl) (fun K hK => ?_)
   have zz := hCF.out _ hHeld
   obtain ⟨⟨v0, v1, v2⟩, v3, v4⟩ := zz
   go_simp
   refine hK.out _ _ ?_
   clear hK K
   try simp only [Act.put,sA,sB,sC]
   refine wpAnyS_done (by kernel_rfl) ?_ _
   clear hCF hInv hHeld
   have hSm := hSn.keep (Below.refl _ _).drew
   have hBm := hSm.below
   obtain ⟨wz, hwz⟩ : ∃ x, (w8.setCell ⟨B, pi1, none⟩ (.int .u64 (y : Nat))).drew = x := ⟨_, rfl⟩
   rw [hwz] at hSm hBm
   have hSo1 := sound_any _ _ wz (hwk.out _ hBm) hWn hSm.o.kl (by rw [hSm.l]; omega)
   rw [htw] at hSo1
   clear hSn
   subst hwz
   by_cases hik : i = k
   case pos =>
    rw [decide_eq_true hik] at hSo1
    replace hSo1 : Calls Tryz.prog 13 #[.slice (some ⟨B, 0, none⟩) N c3] _ (fun e w' => e = .returned (.int .i64 0) ∧ Below _ _ w') := hSo1
    have hik1 : (i : Int) = (k : Int) := by omega
    have hik2 : ((i : Int) == (k : Int)) = true := beq_iff_eq.2 hik1
    go_wp2_with fail
    refine hSo1.mono ?_
    rintro e9 w8 ⟨rfl, hb8⟩
    have hBe := hBm.trans (hb8.mono hBm.size)
    go_wp2_with fail
    go_ret
    exact ⟨by first | rfl | simp [hik2], hBe⟩
   rw [decide_eq_false hik] at hSo1
   replace hSo1 : Calls Tryz.prog 13 #[.slice (some ⟨B, 0, none⟩) N c3] _ (fun e w' => e = .returned (.int .i64 7) ∧ Below _ _ w') := hSo1
   have hik1 : ¬ (i : Int) = (k : Int) := by omega
   have hik2 : ((i : Int) == (k : Int)) = false := beq_eq_false_iff_ne.2 hik1
   go_wp2_with fail
   refine hSo1.mono ?_
   rintro e9 w8 ⟨rfl, hb8⟩
   have hBe := hBm.trans (hb8.mono hBm.size)
   go_wp2_with fail
   go_ret
   exact ⟨by first | rfl | simp [hik2], hBe⟩
end Go.Proofs.YtdmmbnnejbmdpaaGreatDoor
end
section
namespace Go.Proofs.YtdmmbnnejbmdpaaGreatDoor
open Go.Lib Go.RowKit Go.ChangeShapes Go.WideShapes Go.Deep Go.Shelf
theorem OJA.chg {S : Nat → Prop} {w w1 : World} {base : Nat} {v : Value} {l : List Oj} (h : OJA w base v l) (hc : Chg S w w1) (hn : ∀ k, base ≤ k → ¬ S k) : OJA w1 base v l := by
 obtain ⟨xs, h1, h2, h3⟩ := h
 exact ⟨xs, h1.chg hc (fun k q => hn k (World.ownsRow.lt h1 k q).1), ⟨h2.1, fun k hk => ⟨(h2.2 k hk).1, OwnU.chg (h2.2 k hk).2 hc (fun b q => hn b (World.ownsRow.lt (h2.2 k hk).2 b q).1)⟩⟩, h3⟩
theorem OJO.chg {S : Nat → Prop} {w w1 : World} {base : Nat} {v : Value} {l : List Oj} (h : OJO w base v l) (hc : Chg S w w1) (hn : ∀ k, base ≤ k → ¬ S k) : OJO w1 base v l := by
 obtain ⟨xs, h1, h2⟩ := h
 exact ⟨xs, h1.chg hc (fun k q => hn k (World.ownsRow.lt h1 k q).1), ⟨h2.1, fun k hk => ⟨(h2.2 k hk).1, OwnU.chg (h2.2 k hk).2 hc (fun b q => hn b (World.ownsRow.lt (h2.2 k hk).2 b q).1)⟩⟩⟩
theorem OJA.put2 {w : World} {base : Nat} {v : Value} {l : List Oj} {n i m : Nat} (h : OJA w base v l) (hn : l.length = n) (hi : i < n) (hm : (l.getD i default).2.length = m) (hm0 : 0 < m) : ∃ A cap g off d cd, v = .slice A n cap ∧ A = some ⟨g, off, none⟩ ∧ d < w.heap.size ∧ base ≤ d ∧ n ≤ cap ∧ m ≤ cd ∧ g < w.heap.size ∧ w.cell? ⟨g, off + i * 4, none⟩ = some (.int .i64 ((l.getD i default).1.1 : Nat)) ∧ w.cell? ⟨g, off + i * 4 + 3, none⟩ = some (.slice (some ⟨d, 0, none⟩) m cd) ∧
 ∀ w1, Below w.heap.size w w1 → ∀ k y, k < m → (∃ z, w1.cell? ⟨d, k, none⟩ = some (.int .u64 (z : Nat))) ∧ w1.frozen? ⟨d, k, none⟩ = false ∧ OJO (w1.setCell ⟨d, k, none⟩ (.int .u64 (y : Nat))) base v (l.set i ((l.getD i default).1, (l.getD i default).2.set k y)) := by
 obtain ⟨A0, c0, hv0, hF0⟩ := h.oj.formJ hn
 obtain ⟨g0, o0, d0, hA0, -, -, -, x0, -, -, -, -⟩ := hF0 w i (Below.refl _ _) hi
 obtain ⟨A, cap, g, off, d, cd, hv, hA, hd, hbd, hc, h1, h2, h3, -⟩ := h.put hn hi hm hm0
 have hcell := hc w (Below.refl _ _)
 rw [hv0] at hv
 cases hv
 rw [hA0] at hA
 cases hA
 refine ⟨_, _, g0, o0, d, cd, hv0, hA0, hd, hbd, h1, h3, h2, x0, hcell, fun w1 hb k y hk => ?_⟩
 obtain ⟨A', cap', g', off', d', cd', hv', hA', hd', hbd', hc', h1', h2', h3', hst⟩ := (h.keep hb).put hn hi hm hm0
 have hcell2 := hc w1 hb
 have hcell3 := hc' w1 (Below.refl _ _)
 rw [hv0] at hv'
 cases hv'
 rw [hA0] at hA'
 cases hA'
 rw [hcell2] at hcell3
 cases hcell3
 exact hst k y hk
theorem StkP.root0 {s : Sk} {B : List Nat} {N L G : Nat} {R : List Bl} (h : StkP s B N L G R) (hn : R.length = 0) : rootO B = (0, 0, 0) := by
 unfold rootO rootL
 rw [h.w3, h.obsP, hn]
 split <;> rfl
theorem soundWords (s : Sk) (vT vY vE vF : Value) (a b vv : Nat) (ha : a < 256) (hb9 : b < 256) (hvv : vv < 18446744073709551616) (w : World) (hw : Lw w) (hM : SkM w vT vY vE vF s) (hB : SkB s) :
 Calls Tryz.prog 7 #[skV s vT vY vE vF, .int .u8 (a : Nat), .int .u8 (b : Nat), .int .u64 (vv : Nat)] w fun e w' => e = .returned (.bool true) ∧ Below w.heap.size w w' := by
 obtain ⟨AT, cT, AY, cY, AE, cE, AF, cF, rfl, rfl, rfl, rfl⟩ := hM.sl
 have hAw := lh (fun w1 (hb : Below w.heap.size w w1) => awake16 w1 (hw.keep hb))
 have hFe := lh (fun w1 => few16 s AT AY AE AF s.tiles.length cT s.types.length cY s.less.length cE s.fill.length cF w1 rfl rfl rfl rfl)
 have hSt := lh (fun w1 (hb : Below w.heap.size w w1) (hf : fewS s = true) => Stocked_any s _ _ _ _ w1 (hw.keep hb) (hM.keep hb) hB hf)
 obtain ⟨hg, hgN, hgat, hL1, hL3, hG1, hG8⟩ := gv_geo (gvS s)
 have hslen := stockL_len s
 have hNN : gvN (gvS s) = 10 + 73 * gvL (gvS s) + 33 * gvG (gvS s) := rfl
 have hse := hB.ep
 obtain ⟨R, hP⟩ := stock_parts hB
 have hwk := lh (fun w1 (hb : Below w.heap.size w w1) => hw.keep hb)
 obtain ⟨X, hX⟩ : ∃ X, stockL s = X := ⟨_, rfl⟩
 obtain ⟨N, hN⟩ : ∃ N, gvN (gvS s) = N := ⟨_, rfl⟩
 obtain ⟨L, hL⟩ : ∃ L, gvL (gvS s) = L := ⟨_, rfl⟩
 obtain ⟨G, hG⟩ : ∃ G, gvG (gvS s) = G := ⟨_, rfl⟩
 rw [hX] at hSt hslen hP
 rw [hN, hL, hG] at hP
 rw [hN] at hslen
 rw [hN, hL, hG] at hNN
 rw [hG] at hG1 hG8
 rw [hL] at hL1 hL3
 have hN1 : 116 ≤ N := by omega
 have hN2 : N ≤ 800 := by omega
 obtain ⟨tl, -⟩ := hP.tell hse
 have hsd := hP.sound hse
 obtain ⟨n, hnR⟩ : ∃ n, R.length = n := ⟨_, rfl⟩
 have hn64 := hP.n64
 rw [hnR] at tl hn64
 have hpl := lh (fun i (hi : i < n) => show ((objL X).getD i default).1.1 + 2 + ((objL X).getD i default).2.length ≤ N from by
  have q := hP.tell1 hse (show i < R.length by omega)
  have q2 := (hP.tell hse).2 i (by omega)
  have q3 := apart_at (I := X) (k := i) (by rw [hslen]; omega) (by rw [tl]; exact hi)
  have := q3.2.2.1
  rw [hslen] at this
  exact this)
 have hwd := lh (fun i k (hi : i < n) (hk : k < ((objL X).getD i default).2.length) => show objL (X.set (((objL X).getD i default).1.1 + 2 + k) vv) = (objL X).set i (((objL X).getD i default).1, ((objL X).getD i default).2.set k vv) ∧ rootO (X.set (((objL X).getD i default).1.1 + 2 + k) vv) = rootO X from by
  have hi2 : i < R.length := by omega
  have q := (hP.tell1 hse hi2).1
  have q2 := (hP.tell hse).2 i hi2
  have hl := apart_at (I := X) (k := i) (by rw [hslen]; omega) (by rw [tl]; exact hi)
  have hsz : ((objL X).getD i default).2.length = szS s i (R.getD i default).2.2 := by
   have hb := hl.2.2.1
   rw [q2] at hb ⊢
   unfold ojOf obS at hb ⊢
   simp only [] at hb ⊢
   rw [List.length_take, List.length_drop] at hb ⊢
   have h3 := (objs_asc hsd (by rw [hslen]; omega)).2 (obS s N L i (R.getD i default)) (by rw [hP.w3, hP.obsP]; exact List.mem_map.2 ⟨i, List.mem_range.2 hi2, rfl⟩)
   have h4 := h3.2.1
   unfold obS at h4
   simp only [] at h4
   omega
  rw [hsz] at hk
  obtain ⟨u1, u2, -, -⟩ := hP.word (v := vv) hse hi2 hk
  rw [q]
  exact ⟨u1, u2⟩)
 have hr0 := lh (fun (h : n = 0) => hP.root0 (by omega))
 obtain ⟨ro, hro⟩ : ∃ o, rootO X = o := ⟨_, rfl⟩
 have hrb := Root_any
 obtain ⟨O, hO⟩ : ∃ O, objL X = O := ⟨_, rfl⟩
 have hObj := lh (fun v w1 (h1 : Lw w1) (h2 : KL .u64 w1 v X) (h3 : WL X) => ObjectsA_any v X w1 h1 h3 h2 (by omega))
 have hRo := lh (fun v w1 (h1 : Lw w1) (h2 : KL .u64 w1 v X) (h3 : WL X) => Root_any v X w1 h1 h3 h2 (by omega))
 have hSo := lh (fun v w1 (h1 : Lw w1) (h2 : KL .u64 w1 v X) (h3 : WL X) => show Calls Tryz.prog 13 #[v] w1 (fun e w' => e = .returned (.int .i64 0) ∧ Below w1.heap.size w1 w') from by
  have h := sound_any v X w1 h1 h3 h2 (by omega)
  rw [if_pos hsd] at h
  exact h)
 have hdl := lh (fun j (hj : j < (objL X).length) => show ((objL X).getD j default).2.length ≤ 1000000 from by
  have := (apart_at (I := X) (k := j) (by rw [hslen]; omega) hj).2.2.1
  rw [hslen] at this
  omega)
 rw [hO] at hpl hwd tl hObj hdl
 rw [hro] at hwd hr0 hRo
 have hn := lh tl
 clear hNN hg hgN hgat hP tl hnR hO hse hsd hrb
 replace hro := lh hro
 obtain ⟨nT, hnT⟩ : ∃ n, s.tiles.length = n := ⟨_, rfl⟩
 obtain ⟨nY, hnY⟩ : ∃ n, s.types.length = n := ⟨_, rfl⟩
 obtain ⟨nE, hnE⟩ : ∃ n, s.less.length = n := ⟨_, rfl⟩
 obtain ⟨nF, hnF⟩ : ∃ n, s.fill.length = n := ⟨_, rfl⟩
 rw [hnT, hnY, hnE, hnF] at hFe hSt
 rw [hnT, hnY, hnE, hnF]
 unfold skV at hFe hSt ⊢
 replace hX := lh hX
 replace hN := lh hN
 replace hL := lh hL
 replace hG := lh hG
 clear hM hB hw
 have hb0 := bZ w (.cells #[.int .u8 (s.a : Nat), .int .u8 (s.b : Nat), .slice AT nT cT, .slice AY nY cY, .slice AE nE cE, .int .u32 (s.ep : Nat), .int .u8 (s.root : Nat), .slice AF nF cF] 27)
 have gS := HB.new w #[.int .u8 (s.a : Nat), .int .u8 (s.b : Nat), .slice AT nT cT, .slice AY nY cY, .slice AE nE cE, .int .u32 (s.ep : Nat), .int .u8 (s.root : Nat), .slice AF nF cF] 27
 obtain ⟨wb1, hwb1⟩ : ∃ x, w.alloc (.cells #[.int .u8 (s.a : Nat), .int .u8 (s.b : Nat), .slice AT nT cT, .slice AY nY cY, .slice AE nE cE, .int .u32 (s.ep : Nat), .int .u8 (s.root : Nat), .slice AF nF cF] 27) = x := ⟨_, rfl⟩
 have hswb1 : wb1.heap.size = w.heap.size + 1 := by rw [← hwb1]; simp
 rw [hwb1] at hb0 gS
 obtain ⟨C0, hC0⟩ : ∃ C, w.heap.size = C := ⟨_, rfl⟩
 have hB : Below w.heap.size w wb1 := hb0
 rw [hC0] at gS
 clear hb0
 go_enter Tryz.func7, Tryz.ntmps7
 subst hwb1
 go_wp2_with fail
 refine (hAw.out _ hB).mono ?_
 rintro e w1 ⟨rfl, hb1⟩
 have hB1 := hB.trans (hb1.mono hB.size)
 have gS1 := gS.keep hb1
 clear hAw hb1 hB gS
 have p0 := (row_cell gS1 0).1
 have p1 := (row_cell gS1 1).1
 have p2 := (row_cell gS1 2).1
 have p3 := (row_cell gS1 3).1
 have p4 := (row_cell gS1 4).1
 have p5 := (row_cell gS1 5).1
 have p6 := (row_cell gS1 6).1
 have p7 := (row_cell gS1 7).1
 go_wp2_with fail
 refine (hFe.out _).mono ?_
 rintro e w2 ⟨rfl, hb2⟩
 have hB2 := hB1.trans (hb2.mono hB1.size)
 have gS2 := gS1.keep hb2
 clear p0 p1 p2 p3 p4 p5 p6 p7 hb2 hB1 gS1 hFe
 cases hfew : fewS s with
 | false =>
   go_wp2_with fail
   go_ret
   exact ⟨rfl, hB2⟩
 | true =>
   have hSt2 := hSt.out _ hB2 hfew
   clear hSt hfew
   have p0 := (row_cell gS2 0).1
   have p1 := (row_cell gS2 1).1
   have p2 := (row_cell gS2 2).1
   have p3 := (row_cell gS2 3).1
   have p4 := (row_cell gS2 4).1
   have p5 := (row_cell gS2 5).1
   have p6 := (row_cell gS2 6).1
   have p7 := (row_cell gS2 7).1
   go_wp2_with fail
   refine hSt2.mono ?_
   rintro e w3 ⟨v3, rfl, hO3, hW, hb3⟩
   have hB3 := hB2.trans (hb3.mono hB2.size)
   have gS3 := gS2.keep hb3
   obtain ⟨A3, c3, hv3, hf3⟩ := OwnU.form hO3
   rw [hslen] at hv3 hf3
   cases hv3
   obtain ⟨B, rfl, -, -⟩ := hf3 (by omega)
   have hk3 := hO3.kl
   have hc3 : N ≤ c3 := by
    obtain ⟨A9, c9, hv9, h9⟩ := hk3.form hslen
    cases hv9
    obtain ⟨_, _, _, h2, _⟩ := h9 w3 0 (Below.refl _ _) (by omega)
    exact h2
   have hbs : w.heap.size ≤ w2.heap.size := hB2.size
   clear p0 p1 p2 p3 p4 p5 p6 p7 hSt2 hb3 hf3 gS2 hB2
   obtain ⟨Bs, hBs⟩ : ∃ b, w2.heap.size = b := ⟨_, rfl⟩
   rw [hBs] at hO3 hbs
   clear hBs
   have hS3 : SpS w C0 #[.int .u8 (s.a : Nat), .int .u8 (s.b : Nat), .slice AT nT cT, .slice AY nY cY, .slice AE nE cE, .int .u32 (s.ep : Nat), .int .u8 (s.root : Nat), .slice AF nF cF] Bs B N c3 X w3 := ⟨hO3, hslen, gS3, hB3, hbs⟩
   have hB3s : B < w3.heap.size := (World.ownsRow.lt hO3 B rfl).2
   have hOb3 := hObj.out _ w3 (hwk.out _ hB3) hk3 hW.out
   clear hO3 hk3 gS3 hB3 hObj
   go_wp2_with fail
   refine hOb3.mono ?_
   rintro e w4 ⟨v4, rfl, hO4, hb4⟩
   have hS4 := hS3.keep hb4
   have hRo4 := hRo.out _ w4 (hwk.out _ hS4.below) hS4.o.kl hW.out
   obtain ⟨A4, c4, rfl, -⟩ := hO4.oj.formJ hn.out
   have h34 : w3.heap.size ≤ w4.heap.size := hb4.size
   clear hOb3 hb4 hS3 hRo
   go_wp2_with fail
   refine hRo4.mono ?_
   rintro e w5 ⟨rfl, hb5⟩
   have e6 := bZ w5 (.cells #[.int .i64 (ro.1 : Nat), .int .i64 (ro.2.1 : Nat), .int .u64 (ro.2.2 : Nat)] 42)
   have gR := HB.new w5 #[.int .i64 (ro.1 : Nat), .int .i64 (ro.2.1 : Nat), .int .u64 (ro.2.2 : Nat)] 42
   have hS5 := (hS4.keep hb5).keep e6
   have hO5 := (hO4.keep hb5).keep e6
   obtain ⟨w6, hw6⟩ : ∃ x, w5.alloc (.cells #[.int .i64 (ro.1 : Nat), .int .i64 (ro.2.1 : Nat), .int .u64 (ro.2.2 : Nat)] 42) = x := ⟨_, rfl⟩
   rw [hw6] at hS5 hO5 gR
   have hRb : w3.heap.size ≤ w5.heap.size := Nat.le_trans h34 hb5.size
   obtain ⟨Rb, hRb9⟩ : ∃ b, w5.heap.size = b := ⟨_, rfl⟩
   rw [hRb9] at gR hRb
   have hSo6 := hSo.out _ w6 (hwk.out _ hS5.below) hS5.o.kl hW.out
   clear hRo4 hb5 e6 hS4 hO4 h34 hSo
   subst hw6
   go_wp2_with fail
   refine hSo6.mono ?_
   rintro e w7 ⟨rfl, hb7⟩
   have hS7 := hS5.keep hb7
   have hO7 := hO5.keep hb7
   have gR7 := gR.keep hb7
   clear hSo6 hb7 hS5 hO5 gR hRb9
   by_cases hn0 : n = 0
   case pos =>
    have n1 : (n : Int) = 0 := by omega
    have n2 : ((n : Int) == 0) = true := beq_iff_eq.2 n1
    have hrz := hr0.out hn0
    rw [hrz] at gR7
    have o0 := (row_cell gR7 0).1
    have o1 := (row_cell gR7 1).1
    have o2 := (row_cell gR7 2).1
    simp only [] at o0 o1 o2
    have hBe := hS7.below
    go_wp2_with fail
    go_ret
    exact ⟨by first | rfl | simp, hBe⟩
   have n1 : ¬ (n : Int) = 0 := by omega
   have n2 : ((n : Int) == 0) = false := beq_eq_false_iff_ne.2 n1
   have n3 : ¬ n = 0 := hn0
   obtain ⟨i, hi⟩ : ∃ z9, a % n = z9 := ⟨_, rfl⟩
   have hin : i < n := by rw [← hi]; exact Nat.mod_lt _ (by omega)
   have r1i : (a : Int) % (n : Int) = (i : Int) := by rw [← hi]; rfl
   have r2i : (a : Int).tmod (n : Int) = (i : Int) := by rw [Int.tmod_eq_emod_of_nonneg (by omega)]; exact r1i
   have r4i : IntKind.i64.wrap (a : Int) = (a : Int) := wrapQ _ (by omega) (by omega)
   have r5i : (i : Int) < (n : Int) := by omega
   replace hi := lh hi
   obtain ⟨m, hm⟩ : ∃ m, (O.getD i default).2.length = m := ⟨_, rfl⟩
   have hwd1 := lh (fun k (hk : k < m) => hwd.out i k hin (by omega))
   have hpl1 := hpl.out i hin
   rw [hm] at hpl1
   clear hwd hpl hr0
   by_cases hm0 : m = 0
   case pos =>
    obtain ⟨A5, c5, hv5, hF5⟩ := hO7.oj.formJ hn.out
    cases hv5
    obtain ⟨g5, o5, d5, rfl, hc5, -, hg5, -, -, -, x3, hkd⟩ := hF5 w7 i (Below.refl _ _) hin
    obtain ⟨Ad, cd, rfl, -⟩ := hkd.form hm
    have m1 : (m : Int) = 0 := by omega
    have m2 : ((m : Int) == 0) = true := beq_iff_eq.2 m1
    have hBe := hS7.below
    clear hF5 hkd
    go_wp2_with fail
    go_ret
    exact ⟨rfl, hBe⟩
   have m1 : ¬ (m : Int) = 0 := by omega
   have m2 : ((m : Int) == 0) = false := beq_eq_false_iff_ne.2 m1
   have m3 : ¬ m = 0 := hm0
   have hm8 : m ≤ 800 := by omega
   obtain ⟨A5, c5, g5, o5, d, cd, hv5, hA5, -, hbd, hc5, hcd, hg5, x0, x3, -⟩ := hO7.put2 hn.out hin hm (by omega)
   cases hv5
   subst hA5
   obtain ⟨k, hk⟩ : ∃ z9, b % m = z9 := ⟨_, rfl⟩
   have hkn : k < m := by rw [← hk]; exact Nat.mod_lt _ (by omega)
   have r1k : (b : Int) % (m : Int) = (k : Int) := by rw [← hk]; rfl
   have r2k : (b : Int).tmod (m : Int) = (k : Int) := by rw [Int.tmod_eq_emod_of_nonneg (by omega)]; exact r1k
   have r4k : IntKind.i64.wrap (b : Int) = (b : Int) := wrapQ _ (by omega) (by omega)
   have r5k : (k : Int) < (m : Int) := by omega
   replace hk := lh hk
   obtain ⟨p, hp⟩ : ∃ p, (O.getD i default).1.1 = p := ⟨_, rfl⟩
   have hwd2 := hwd1.out k hkn
   rw [hp] at x0 hpl1 hwd2
   obtain ⟨q, hq⟩ : ∃ q, p + 2 + k = q := ⟨_, rfl⟩
   rw [hq] at hwd2
   have hqN : q < N := by omega
   have z1 : (p : Int) + 2 + (k : Int) = (q : Int) := by omega
   have z2 : IntKind.i64.wrap ((p : Int) + 2) = (p : Int) + 2 := wrapQ _ (by omega) (by omega)
   have z3 : IntKind.i64.wrap (q : Int) = (q : Int) := wrapQ _ (by omega) (by omega)
   have z5 : (q : Int) < (N : Int) := by omega
   obtain ⟨t0, t1⟩ := hS7.o.cell hS7.l hqN
   obtain ⟨Xd, hXd⟩ : ∃ y, X.getD q 0 = y := ⟨_, rfl⟩
   rw [hXd] at t0
   have hS8 := hS7.set q vv hqN
   have hW8 := hW.out.setN q vv hvv
   have hch : Chg (fun k => k = B) w7 (w7.setCell ⟨B, q, none⟩ (.int .u64 (vv : Nat))) := Chg.setCell (S := fun k => k = B) w7 B q _ rfl
   have hO8 := hO7.chg hch (fun k hk e => by omega)
   have gR8 := HB.chg gR7 hch (fun e => by omega)
   obtain ⟨Y, hY⟩ : ∃ Y, X.set q vv = Y := ⟨_, rfl⟩
   rw [hY] at hS8 hW8 hwd2
   obtain ⟨w8, hw8⟩ : ∃ x, w7.setCell ⟨B, q, none⟩ (.int .u64 (vv : Nat)) = x := ⟨_, rfl⟩
   rw [hw8] at hS8 hO8 gR8
   have hY8 : Y.length ≤ 800 := by rw [hS8.l]; omega
   have hOb8 := Objects_any _ Y w8 (hwk.out _ hS8.below) hW8 hS8.o.kl hY8
   have hRo8 := lh (fun w1 (hb : Below w8.heap.size w8 w1) => show Calls Tryz.prog 18 #[.slice (some ⟨B, 0, none⟩) N c3] w1 (fun e w' => e = .returned (.agg #[.int .i64 (ro.1 : Nat), .int .i64 (ro.2.1 : Nat), .int .u64 (ro.2.2 : Nat)]) ∧ Below w1.heap.size w1 w') from by
    have h := Root_any _ Y w1 (hwk.out _ (hS8.keep hb).below) hW8 (hS8.keep hb).o.kl hY8
    rw [hwd2.2] at h
    exact h)
   rw [hwd2.1] at hOb8
   replace hq := lh hq
   replace hY := lh hY
   clear hXd hwd1 hwd2 hW8 hY8 hS7 hO7 gR7 hch r1i r1k
   subst hw8
   go_wp2_with fail
   clear t0 t1 x0 x3
   generalize w7.setCell ⟨B, q, none⟩ (.int .u64 (vv : Nat)) = w8 at *
   refine hOb8.mono ?_
   rintro e w9 ⟨v9, rfl, hO9, hb9⟩
   have hS9 := hS8.keep hb9
   have hOw := hO8.keep hb9
   have gR9 := gR8.keep hb9
   obtain ⟨A5', c5', g5', o5', d', cd', hv5', hA5', hd8, hbd', -, -, hg8, -, y3, hst⟩ := hO8.put2 hn.out hin hm (by omega)
   cases hv5'
   cases hA5'
   obtain ⟨A9, c9, rfl, -⟩ := hO9.formJ (show (O.set i ((O.getD i default).1, (O.getD i default).2.set k vv)).length = n by rw [List.length_set]; exact hn.out)
   have y39 : w9.cell? ⟨g5, o5 + i * 4 + 3, none⟩ = some (.slice (some ⟨d', 0, none⟩) m cd') := by rw [(bcell hb9).1 _ _ hg8]; exact y3
   have hg9 : g5 < w9.heap.size := Nat.lt_of_lt_of_le hg8 hb9.size
   have hst9 := lh (fun w1 (hb : Below w9.heap.size w9 w1) => hst w1 (hb9.trans (hb.mono hb9.size)) k vv hkn)
   have hRo9 := lh (fun w1 (hb : Below w9.heap.size w9 w1) => hRo8.out w1 (hb9.trans (hb.mono hb9.size)))
   clear hOb8 hS8 hO8 gR8 y3 hst hRo8 hOw hb9 hbd hcd
   have hCF := lh (fun w' (hb : Below w9.heap.size w9 w') => show w'.cell? ⟨Rb, 0, none⟩ = some (.int .i64 (ro.1 : Nat)) ∧ w'.cell? ⟨Rb, 1, none⟩ = some (.int .i64 (ro.2.1 : Nat)) ∧ w'.cell? ⟨Rb, 2, none⟩ = some (.int .u64 (ro.2.2 : Nat)) from ⟨(row_cell (gR9.keep hb) 0).1, (row_cell (gR9.keep hb) 1).1, (row_cell (gR9.keep hb) 2).1⟩)
   go_wp2_with fail
   refine wp_region_held_drew (S := (fun w' => Below w9.heap.size w9 w')) (by kernel_rfl) (Below.refl _ _).drew (fun hHeld => ?_)
   refine takeH 0 ?_
   refine takeH 1 ?_
   refine takeH 2 ?_
   refine takeH 3 ?_
   refine takeH 4 ?_
   refine takeH 5 ?_
   refine takeH 6 ?_
   refine takeH 8 ?_
   refine oneL 7 rfl (by kernel_rfl) (fun K hK => ?_)
   go_simp
   refine (hRo9.out _ hHeld).mono ?_; rintro e w6 ⟨rfl, hb⟩
   refine hK.out _ _ (hHeld.trans (hb.mono hHeld.size)) (fun hHeld2 => ?_)
   clear hK K hHeld
   have hHeld := hHeld2
   clear hHeld2
   try simp only [Act.put,sA,sB,sC]
   refine takeH 9 ?_
   refine takeH 10 ?_
   refine wpAnyH_done (by kernel_rfl) ?_ _
   have hSa := hS9.keep hHeld
   have hO10 := hO9.keep hHeld
   have y40 : _ := ((bcell hHeld).1 _ _ hg9).trans y39
   have hst10 := lh (hst9.out _ hHeld)
   clear hCF hRo9 hst9 gR9 hS9 hO9 y39
   obtain ⟨w10, hw10⟩ : ∃ x, w6 = x := ⟨_, rfl⟩
   rw [hw10] at hSa hO10 y40 hst10 hHeld
   obtain ⟨⟨zz, c0⟩, c1, hOs⟩ := hst10.out
   have hd10 : B ≠ d' := fun e => by omega
   have hch2 : Chg (fun k => k = d') w10 (w10.setCell ⟨d', k, none⟩ (.int .u64 (vv : Nat))) := Chg.setCell (S := fun k => k = d') w10 d' k _ rfl
   have hOn := hO10.chg hch2 (fun k hk e => by omega)
   have hBf := hSa.below.setCell (p := ⟨d', k, none⟩) (Nat.le_trans (Nat.le_of_lt (Nat.lt_of_le_of_lt hSa.base hB3s)) hbd') (.int .u64 (vv : Nat))
   subst hw10
   have hSame := Same_any _ _ _ _ _ _ hOn hOs (by rw [List.length_set, hn.out]; omega) (fun x hx => by
    obtain ⟨j, hj, rfl⟩ := List.getElem_of_mem hx
    rw [List.getElem_set]
    split
    ·rw [List.length_set, hm]; omega
    ·have := hdl.out j (by rw [List.length_set] at hj; exact hj)
     rw [List.getD_eq_getElem?_getD, List.getElem?_eq_getElem (by rw [List.length_set] at hj; exact hj)] at this
     exact this)
   clear hst10 hSa hO10 hch2 hOn hOs
   go_wp2_with fail
   refine hSame.mono ?_
   rintro e wf ⟨rfl, hbf⟩
   have hBe := hBf.trans (hbf.mono hBf.size)
   go_wp2_with fail
   go_ret
   exact ⟨by first | rfl | simp, hBe⟩
end Go.Proofs.YtdmmbnnejbmdpaaGreatDoor
end
