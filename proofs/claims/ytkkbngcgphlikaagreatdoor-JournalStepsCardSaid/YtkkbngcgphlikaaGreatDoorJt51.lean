/-
  Part of the proof of JournalSteps.
-/
import Derived.Test.YtkkbngcgphlikaaGreatDoorJt49
import Derived.Test.YtkkbngcgphlikaaGreatDoorJt0
set_option maxRecDepth 10000
set_option maxHeartbeats 2000000
set_option linter.unusedVariables false
set_option linter.unusedSimpArgs false
namespace Go.Proofs.YtkkbngcgphlikaaGreatDoor
open Go.Lib Go.RowKit Go.ChangeShapes Go.WideShapes Go.Deep Go.Shelf
theorem KL.cellq {K : IntKind} {w : World} {g o n c : Nat} {l : List Nat} (h : KL K w (.slice (some ⟨g, o, none⟩) n c) l) {i : Nat} (hi : i < l.length) : w.cell? ⟨g, o + i, none⟩ = some (.int K (l.getD i 0 : Nat)) ∧ g < w.heap.size := by
 obtain ⟨A, c', hv, hf⟩ := h.form rfl
 cases hv
 obtain ⟨g', o', e, h1, h2, h3⟩ := hf w i (Below.refl _ _) hi
 cases e
 exact ⟨h3, h2⟩
theorem KL.one8 (w : World) (x : Nat) : KL .u8 (w.alloc (.cells #[.int .u8 (x : Nat)] (5 : Nat))) (.slice (some ⟨w.heap.size, 0, none⟩) 1 1) [x] := by
 have g := HB.new w #[.int .u8 (x : Nat)] (5 : Nat)
 refine ⟨some ⟨w.heap.size, 0, none⟩, 1, rfl, fun _ => ⟨w.heap.size, 0, rfl, g.lt, Nat.le_refl _, fun i hi => ?_⟩⟩
 obtain rfl : i = 0 := by simpa using hi
 exact (row_cell g 0).1
def oneW (a m : Nat) : Wk := { a := [a], m := [m], v := [], e := [], o := [] }
theorem oneW_B {a m : Nat} (ha : a < 256) (hm : m < 256) : WkB (oneW a m) := ⟨fun x hx => by rw [List.mem_singleton.1 hx]; exact ha, fun x hx => by rw [List.mem_singleton.1 hx]; exact hm, fun x hx => (by cases hx), fun x hx => (by cases hx), fun x hx => (by cases hx)⟩
theorem drop_same {a b : List Nat} {t : Nat} (hl : a.length = b.length) (h : ∀ i, t ≤ i → i < a.length → a.getD i 0 = b.getD i 0) : a.drop t = b.drop t := by
 refine ext_getD_md (by rw [List.length_drop, List.length_drop, hl]) (fun i hi => ?_)
 rw [List.length_drop] at hi
 rw [List.getD_eq_getElem?_getD, List.getD_eq_getElem?_getD, List.getElem?_drop, List.getElem?_drop, ← List.getD_eq_getElem?_getD, ← List.getD_eq_getElem?_getD]
 exact h _ (by omega) (by omega)
theorem take_same {a b : List Nat} {t : Nat} (hl : a.length = b.length) (h : ∀ i, i < t → i < a.length → a.getD i 0 = b.getD i 0) : a.take t = b.take t := by
 refine ext_getD_md (by rw [List.length_take, List.length_take, hl]) (fun i hi => ?_)
 rw [List.length_take] at hi
 rw [take_getD _ _ _ (by omega), take_getD _ _ _ (by omega)]
 exact h _ (by omega) (by omega)
theorem journalSteps (s : Sk) (vT vY vE vF : Value) (ln at' mn : Nat) (hl8 : ln < 256) (ha8 : at' < 256) (hm8 : mn < 256) (w : World) (hw : Lw w) (hM : SkM w vT vY vE vF s) (hB : SkB s) :
 Calls Tryz.prog 7 #[skV s vT vY vE vF, .int .u8 (ln : Nat), .int .u8 (at' : Nat), .int .u8 (mn : Nat)] w fun e w' => e = .returned (.bool true) ∧ Below w.heap.size w w' := by
 obtain ⟨R, hR⟩ := stock_parts hB
 obtain ⟨AT, cT, AY, cY, AE, cE, AF, cF, rfl, rfl, rfl, rfl⟩ := hM.sl
 have hAw := lh (fun w1 (hb : Below w.heap.size w w1) => awake19 w1 (hw.keep hb))
 have hFe := lh (fun w1 => few16 s AT AY AE AF s.tiles.length cT s.types.length cY s.less.length cE s.fill.length cF w1 rfl rfl rfl rfl)
 have hSt := lh (fun w1 (hb : Below w.heap.size w w1) (hf : fewS s = true) => Stocked_any s _ _ _ _ w1 (hw.keep hb) (hM.keep hb) hB hf)
 obtain ⟨hg, hgN, hgat, hL1, hL3, hG1, hG8⟩ := gv_geo (gvS s)
 have hslen := stockL_len s
 have hNN : gvN (gvS s) = 10 + 73 * gvL (gvS s) + 33 * gvG (gvS s) := rfl
 have hGe := lh (fun w1 => show Calls Tryz.prog 13 #[.agg #[.int .u8 (s.a : Nat), .int .u8 (s.b : Nat), .slice none 0 0, .slice none 0 0, .slice none 0 0, .int .u64 0, .int .u64 0, .slice none 0 0]] w1 (fun e w' => e = .returned (.agg #[.int .i64 (gvN (gvS s) : Nat), .int .i64 (gvL (gvS s) : Nat)]) ∧ Below w1.heap.size w1 w') from
  geom_any { a := s.a, b := s.b, tiles := [], fill := [], items := [], root := 0, epoch := 0, spoil := [] } none none none none 0 0 0 0 0 0 0 0 w1 ⟨hB.a, hB.b, fun x hx => (by cases hx), fun x hx => (by cases hx), fun x hx => (by cases hx), (by show 0 < 18446744073709551616; decide), (by show 0 < 18446744073709551616; decide), fun x hx => (by cases hx)⟩)
 have hwk := lh (fun w1 (hb : Below w.heap.size w w1) => hw.keep hb)
 obtain ⟨X, hX⟩ : ∃ X, stockL s = X := ⟨_, rfl⟩
 obtain ⟨N, hN⟩ : ∃ N, gvN (gvS s) = N := ⟨_, rfl⟩
 obtain ⟨L, hL⟩ : ∃ L, gvL (gvS s) = L := ⟨_, rfl⟩
 obtain ⟨G, hG⟩ : ∃ G, gvG (gvS s) = G := ⟨_, rfl⟩
 rw [hX] at hSt hslen
 rw [hN] at hslen
 rw [hN, hL] at hGe hg hgat hgN
 rw [hN, hL, hG] at hNN
 rw [hG] at hgat hG1 hG8 hgN
 rw [hL] at hL1 hL3
 obtain ⟨nT, hnT⟩ : ∃ n, s.tiles.length = n := ⟨_, rfl⟩
 obtain ⟨nY, hnY⟩ : ∃ n, s.types.length = n := ⟨_, rfl⟩
 obtain ⟨nE, hnE⟩ : ∃ n, s.less.length = n := ⟨_, rfl⟩
 obtain ⟨nF, hnF⟩ : ∃ n, s.fill.length = n := ⟨_, rfl⟩
 rw [hnT, hnY, hnE, hnF] at hFe hSt
 rw [hnT, hnY, hnE, hnF]
 unfold skV at hFe hSt ⊢
 have hN9 : N ≤ 493 := by omega
 have hN1 : 44 ≤ N := by omega
 rw [hX, hN, hL, hG] at hR
 have hPX := lh (fun hW : WL X => show PoolX X N L G ∧ ∀ ln : Int, logsT (tabW X L) ln = [] from by subst hX; exact stk_pool hR hW)
 obtain ⟨kk, hkk⟩ : ∃ r, ln % L = r := ⟨_, rfl⟩
 have hkL : kk < L := by rw [← hkk]; exact Nat.mod_lt _ (by omega)
 have hr1 : (ln : Int) % (L : Int) = (kk : Int) := by rw [← hkk]; rfl
 have hr2 : (ln : Int).tmod (L : Int) = (kk : Int) := by rw [Int.tmod_eq_emod_of_nonneg (by omega)]; exact hr1
 have hr3 : ¬ (L : Int) = 0 := by omega
 have hr4 : ¬ L = 0 := by omega
 have hr5 : IntKind.i64.wrap (ln : Int) = (ln : Int) := (by rw [IntKind.wrap_i64]; omega)
 obtain ⟨b1, b2⟩ := spA_bd (oneW at' mn) (L := L) (G := G) (f := 0) (i := 0) (by omega)
 obtain ⟨b3, b4⟩ := spM_bd (oneW at' mn) 0
 have hSpn := lh (fun (gA gM : Nat) w1 (h1 : KL .u8 w1 (.slice (some ⟨gA, 0, none⟩) 1 1) [at']) (h2 : KL .u8 w1 (.slice (some ⟨gM, 0, none⟩) 1 1) [mn]) => show Calls Tryz.prog 33 #[.agg #[.slice (some ⟨gA, 0, none⟩) 1 1, .slice (some ⟨gM, 0, none⟩) 1 1, .slice none 0 0, .slice none 0 0, .slice none 0 0], .agg #[.int .i64 (N : Nat), .int .i64 (L : Nat)], .int .i64 0, .int .i64 0] w1 (fun e w' => e = .returned (.agg #[.int .i64 (spA (oneW at' mn) L G 0 0 : Nat), .int .i64 (spM (oneW at' mn) 0 : Nat)]) ∧ Below w1.heap.size w1 w') from
  span19 (oneW at' mn) (some ⟨gA, 0, none⟩) (some ⟨gM, 0, none⟩) none none none 1 1 1 1 0 0 0 0 0 0 N L G 0 0 w1 ⟨h1, h2, KL.nil _ _ _, ⟨none, 0, rfl, fun h => absurd h (Nat.lt_irrefl _)⟩, ⟨none, 0, rfl, fun h => absurd h (Nat.lt_irrefl _)⟩⟩ (oneW_B ha8 hm8) hg hgat (by omega) (by omega) (by show 0 < 1; decide) rfl)
 generalize spA (oneW at' mn) L G 0 0 = pa at *
 generalize spM (oneW at' mn) 0 = pm at *
 have hlk := lOk_of hg hkL
 have hLo := lh (fun w1 => show Calls Tryz.prog 45 #[.agg #[.int .i64 (N : Nat), .int .i64 (L : Nat)], .int .i64 (kk : Nat)] w1 (fun e w' => e = .returned (.agg #[.int .i64 ((10 + L + kk * 72 : Nat) : Int), .int .i64 32]) ∧ Below w1.heap.size w1 w') from by
  have h := refLog_t (N : Nat) (L : Nat) (kk : Nat) w1 hlk
  rw [show ((10 + L + kk * 72 : Nat) : Int) = 10 + (L : Int) + (kk : Int) * 72 from by omega]
  exact h)
 have hw9 := lh (fun w1 (hb : Below w.heap.size w w1) => hw.keep hb)
 have hlN : 10 + L + kk * 72 + 72 ≤ 10 + 73 * L := by omega
 have hNa : 10 + 73 * L + 33 * G ≤ N := by omega
 have hNb : N ≤ 10 + 73 * L + 33 * G := by omega
 clear hM hB hw hR hNN hgN
 replace hX := lh hX
 replace hN := lh hN
 replace hL := lh hL
 replace hG := lh hG
 replace hkk := lh hkk
 have hb0 := bZ w (.cells #[.int .u8 (s.a : Nat), .int .u8 (s.b : Nat), .slice AT nT cT, .slice AY nY cY, .slice AE nE cE, .int .u32 (s.ep : Nat), .int .u8 (s.root : Nat), .slice AF nF cF] 27)
 have gS := HB.new w #[.int .u8 (s.a : Nat), .int .u8 (s.b : Nat), .slice AT nT cT, .slice AY nY cY, .slice AE nE cE, .int .u32 (s.ep : Nat), .int .u8 (s.root : Nat), .slice AF nF cF] 27
 obtain ⟨wb1, hwb1⟩ : ∃ x, w.alloc (.cells #[.int .u8 (s.a : Nat), .int .u8 (s.b : Nat), .slice AT nT cT, .slice AY nY cY, .slice AE nE cE, .int .u32 (s.ep : Nat), .int .u8 (s.root : Nat), .slice AF nF cF] 27) = x := ⟨_, rfl⟩
 have hswb1 : wb1.heap.size = w.heap.size + 1 := by rw [← hwb1]; simp
 rw [hwb1] at hb0 gS
 obtain ⟨C0, hC0⟩ : ∃ C, w.heap.size = C := ⟨_, rfl⟩
 have hB' : Below w.heap.size w wb1 := hb0
 rw [hC0] at gS
 clear hb0
 have gS' := gS
 have hB0 := hB'
 clear gS hB'
 go_enter Tryz.func7, Tryz.ntmps7
 subst hwb1
 go_wp2_with fail
 refine (hAw.out _ hB0).mono ?_
 rintro e w1 ⟨rfl, hb1⟩
 have hB1 := hB0.trans (hb1.mono hB0.size)
 have gS1 := gS'.keep hb1
 clear hAw hb1 hB0 gS'
 have p0 := (row_cell gS1 0).1
 have p1 := (row_cell gS1 1).1
 have p2 := (row_cell gS1 2).1
 have p3 := (row_cell gS1 3).1
 have p4 := (row_cell gS1 4).1
 have p5 := (row_cell gS1 5).1
 have p6 := (row_cell gS1 6).1
 have p7 := (row_cell gS1 7).1
 go_wp2_with fail
 refine (hFe.out _).mono ?_
 rintro e w2 ⟨rfl, hb2⟩
 have hB2 := hB1.trans (hb2.mono hB1.size)
 have gS2 := gS1.keep hb2
 clear p0 p1 p2 p3 p4 p5 p6 p7 hb2 hB1 gS1 hFe
 have hB3 := hB2
 have gS3 := gS2
 clear hB2 gS2
 cases hfew : fewS s with
 | false =>
   go_wp2_with fail
   go_ret
   exact ⟨rfl, hB3⟩
 | true =>
   have hSt2 := hSt.out _ hB3 hfew
   clear hSt
   have p0 := (row_cell gS3 0).1
   have p1 := (row_cell gS3 1).1
   have p2 := (row_cell gS3 2).1
   have p3 := (row_cell gS3 3).1
   have p4 := (row_cell gS3 4).1
   have p5 := (row_cell gS3 5).1
   have p6 := (row_cell gS3 6).1
   have p7 := (row_cell gS3 7).1
   go_wp2_with fail
   refine hSt2.mono ?_
   rintro e w4 ⟨v4, rfl, hO4, hW, hb4⟩
   have hB4 := hB3.trans (hb4.mono hB3.size)
   have gS4 := gS3.keep hb4
   clear p0 p1 p2 p3 p4 p5 p6 p7 hSt2 hb4 gS3 hB3
   obtain ⟨X4, c4, hv4, -⟩ := OwnU.form hO4
   rw [hslen] at hv4
   cases hv4
   have hk4 := hO4.kl
   have hl4 := World.ownsRow.lt hO4
   clear hO4
   have p0 := (row_cell gS4 0).1
   have p1 := (row_cell gS4 1).1
   go_wp2_with fail
   refine (hGe.out _).mono ?_
   rintro e w5 ⟨rfl, hb5⟩
   have hB5 := hB4.trans (hb5.mono hB4.size)
   have hk5 := hk4.keep hb5
   have e6 := bZ w5 (.cells #[.int .i64 (N : Nat), .int .i64 (L : Nat)] (37 : Nat))
   have gG := HB.new w5 #[.int .i64 (N : Nat), .int .i64 (L : Nat)] (37 : Nat)
   obtain ⟨w6, hw6⟩ : ∃ x, w5.alloc (.cells #[.int .i64 (N : Nat), .int .i64 (L : Nat)] (37 : Nat)) = x := ⟨_, rfl⟩
   obtain ⟨Cg, hCg⟩ : ∃ C, w5.heap.size = C := ⟨_, rfl⟩
   rw [hw6] at e6 gG
   rw [hCg] at gG
   have hB6 := hB5.trans (e6.mono hB5.size)
   have hk6 := hk5.keep e6
   have hz6 : w4.heap.size ≤ w6.heap.size := by have h1 := hb5.size; have h2 := e6.size; omega
   have hOp := dOpen _ X w6 (by rw [hslen]; omega) (by rw [hslen]; omega) hk6
   clear p0 p1 gS4 hb5 hk4 hk5 e6 hB4 hB5 hGe
   subst hw6
   go_wp2_with fail
   refine hOp.mono ?_
   rintro e wo ⟨B, F, rfl, hD, hF, hbo⟩
   have hBo := hB6.trans (hbo.mono hB6.size)
   have hF0 := lh (fun k (q : F k) => Nat.le_trans hB6.size (hF k q))
   have hFl := lh hD.lt
   have gGo := gG.keep hbo
   have hnCg : ¬ F Cg := fun q => by have h1 := hF Cg q; have h2 := gG.lt; omega
   have hgg := lh (fun w' (hc : Chg F wo w') => (gGo.chgJ hc hnCg).c2)
   have hkx := lh (fun w' (hc : Chg F wo w') => (hk6.keep hbo).far hc (fun k e q => by
    have h1 := hF k q
    have h2 := (hl4 k e).2
    have h3 := hz6
    omega))
   have hbw := lh (fun w' (hc : Chg F wo w') => hBo.trans (hc.below hF0.out hBo.size))
   have hco := Chg.refl F wo
   clear hOp hbo hF gG gGo hB6 hk6 hnCg hl4 hz6
   obtain ⟨hpx, hlog⟩ := hPX.out hW.out
   obtain ⟨q1, q2, q3, q4, q5, q6, q7, q8, q9, q10, q11⟩ := noteOne hpx (by omega) (by omega) hkL (hlog (kk : Nat)) b1 (show pa + pm ≤ N by omega) b3 b4
   have gd0 : GoodJ (dv0 X) N 0 := by have h := GoodJ.zero X; rw [hslen] at h; exact h
   have hx0 : loadD (dv0 X) (10 + (kk : Int)) < 18446744073709551616 := (WD.zero hpx.W).load _
   have hBg := lh (fun w1 (q : DvAt w1 B F (dv0 X)) => jBegin B F (dv0 X) N L kk 0 w1 q gd0 (by omega) (by omega) (by omega) hlk (by omega) hx0)
   obtain ⟨s1, hs1⟩ : ∃ z, layD (dv0 X) (10 + (kk : Int)) (begW (loadD (dv0 X) (10 + (kk : Int)))) = z := ⟨_, rfl⟩
   rw [hs1] at q1 q2 q3 q4 q5 q6 q7 q8 q9 q10 q11 hBg
   have hNt := lh (fun w1 (q : DvAt w1 B F s1) (hl : Lw w1) => show Calls Tryz.prog 34 #[.pointer (some ⟨B, 0, none⟩), .agg #[.int .i64 (N : Nat), .int .i64 (L : Nat)], .int .i64 (kk : Nat), .agg #[.int .i64 (pa : Nat), .int .i64 (pm : Nat)]] w1 (fun e w' => e = .returned (.int .i64 0) ∧ DvAt w' B F (noteD s1 N L kk pa pm) ∧ Chg F w1 w') from
    (jNote_any B F s1 N L G kk pa pm w1 hl q (N + 2) q1 hg hkL hgat (by omega) (by omega) q2 b3 b4 b1 (by omega) (by omega)).mono (by
      rintro e w' ⟨r, rfl, hc, ⟨rfl, _, hD⟩ | ⟨_, hno, _⟩⟩
      ·exact ⟨rfl, hD, hc⟩
      ·exact absurd q3 hno))
   obtain ⟨s2, hs2⟩ : ∃ z, noteD s1 N L kk pa pm = z := ⟨_, rfl⟩
   rw [hs2] at q4 q5 q6 q7 q8 q9 q10 q11 hNt
   obtain ⟨n9, hn9⟩ : ∃ n, pm + 10 = n := ⟨_, rfl⟩
   have hst2 : s2.steps = (n9 : Int) := by rw [q4]; omega
   have hSt2 := lh (fun w1 (q : DvAt w1 B F s2) => show Calls Tryz.prog 43 #[.pointer (some ⟨B, 0, none⟩)] w1 (fun e w' => e = .returned (.int .i64 (n9 : Nat)) ∧ w' = w1) from by
    have h := dSteps B F s2 w1 q
    rw [hst2] at h
    exact h)
   have hVl2 : (viewD s2).length = N := by rw [view_len, q7.len]
   have hgd2 := q7.good (by omega) (by omega) (by omega)
   have hVw2 := lh (fun w1 (q : DvAt w1 B F s2) => jView B F s2 w1 q hgd2)
   have hDi := lh (fun w1 (q : DvAt w1 B F s2) => show Calls Tryz.prog 44 #[.pointer (some ⟨B, 0, none⟩)] w1 (fun e w' => ∃ A c, e = .returned (.slice A 0 c) ∧ Below w1.heap.size w1 w') from by
    have h := dDirty B F s2 w1 q hgd2
    rw [q7.len, q9] at h
    refine h.mono ?_
    rintro e w' ⟨v, rfl, hO, hb⟩
    have hil : ∀ x : Int, (iE x).length = 1 := fun _ => rfl
    obtain ⟨A, c, hv⟩ := EL.sl (hO.el hil)
    exact ⟨A, c, by rw [hv]; rfl, hb⟩)
   have hDe := lh (fun w1 (q : DvAt w1 B F s2) => show Calls Tryz.prog 27 #[.pointer (some ⟨B, 0, none⟩), .agg #[.int .i64 (N : Nat), .int .i64 (L : Nat)], .int .i64 (kk : Nat), .int .i64 0] w1 (fun e w' => e = .returned (.tuple #[]) ∧ DvAt w' B F (layD s2 (10 + (kk : Int)) (decW (loadD s2 (10 + (kk : Int))) 0)) ∧ Chg F w1 w') from jDecide B F s2 N L kk (10 * N + 100) 0 (by omega) w1 q q7 (by omega) (by omega) (by omega) hlk (by omega) (q8.load _))
   have ek : (10 : Int) + (kk : Int) = ((10 + kk : Nat) : Int) := by omega
   have hhk : hasD s2 (10 + (kk : Int)) = true := by rw [ek]; exact has_of (by rw [q7.len]; omega)
   obtain ⟨v1, v2, v3⟩ := steps_lay q5 q6 hhk (decW (loadD s2 (10 + (kk : Int))) 0)
   have g3 : GoodJ (layD s2 (10 + (kk : Int)) (decW (loadD s2 (10 + (kk : Int))) 0)) N (11 * N + 102) := (q7.lay (by omega) _ _).mono (by omega)
   have hdw : ¬ decW (loadD s2 (10 + (kk : Int))) 0 = loadD s2 (10 + (kk : Int)) := by
    rw [q11]
    unfold decW
    omega
   have hl3 : loadD (layD s2 (10 + (kk : Int)) (decW (loadD s2 (10 + (kk : Int))) 0)) (10 + (kk : Int)) = decW (loadD s2 (10 + (kk : Int))) 0 := by
    obtain ⟨z, hz⟩ : ∃ z, decW (loadD s2 (10 + (kk : Int))) 0 = z := ⟨_, rfl⟩
    rw [hz] at v2 ⊢
    rw [ek] at v2 ⊢
    exact (lay_cl v2 (by rw [q7.len]; omega)).2.2 _ (load_PV (by rw [lay_len, q7.len]; omega))
   have hn3 : ∀ i : Nat, ¬ i = 10 + kk → loadD (layD s2 (10 + (kk : Int)) (decW (loadD s2 (10 + (kk : Int))) 0)) (i : Int) = loadD s2 (i : Int) := fun i hi => load_lay_ne q7 (by omega) _ _ (by omega)
   obtain ⟨s3, hs3⟩ : ∃ z, layD s2 (10 + (kk : Int)) (decW (loadD s2 (10 + (kk : Int))) 0) = z := ⟨_, rfl⟩
   rw [hs3] at hDe v1 v2 v3 g3 hl3 hn3
   have hVl3 : (viewD s3).length = N := by rw [view_len, g3.len]
   have hst3 : s3.steps = (n9 : Int) + 3 := by rw [v1, hst2]
   have hSt3 := lh (fun w1 (q : DvAt w1 B F s3) => show Calls Tryz.prog 43 #[.pointer (some ⟨B, 0, none⟩)] w1 (fun e w' => e = .returned (.int .i64 ((n9 : Int) + 3)) ∧ Below w1.heap.size w1 w') from by
    have h := dSteps B F s3 w1 q
    rw [hst3] at h
    refine h.mono ?_
    rintro e w' ⟨rfl, rfl⟩
    exact ⟨rfl, Below.refl _ _⟩)
   have hVw3 := lh (fun w1 (q : DvAt w1 B F s3) => jView B F s3 w1 q (g3.good (by omega) (by omega) (by omega)))
   have hv3 : ∀ i, ¬ i = 10 + kk → i < N → (viewD s3).getD i 0 = (viewD s2).getD i 0 := fun i hi hiN => by
    rw [view_at s3 (by rw [g3.len]; exact hiN), view_at s2 (by rw [q7.len]; exact hiN)]
    exact hn3 i hi
   obtain ⟨t11, ht11⟩ : ∃ t, 11 + kk = t := ⟨_, rfl⟩
   obtain ⟨t10, ht10⟩ : ∃ t, 10 + kk = t := ⟨_, rfl⟩
   have hdr : (viewD s3).drop t11 = (viewD s2).drop t11 := drop_same (by rw [hVl2, hVl3]) (fun i h1 h2 => hv3 i (by omega) (by omega))
   have htk : (viewD s3).take t10 = (viewD s2).take t10 := take_same (by rw [hVl2, hVl3]) (fun i h1 h2 => hv3 i (by omega) (by omega))
   have hmk : ¬ (viewD s3).getD t10 0 = (viewD s2).getD t10 0 := by
    rw [view_at s3 (by rw [g3.len]; omega), view_at s2 (by rw [q7.len]; omega), ← ht10, ← ek, hl3]
    exact hdw
   have hsm := lh q10
   clear q1 q2 q3 q4 q5 q6 q7 q8 q9 q10 q11 gd0 hx0 hs1 hs2 hs3 hst2 hst3 hgd2 hhk v1 v2 v3 g3 hdw hl3 hn3 hv3 hpx hlog ek hPX
   generalize viewD s2 = V2 at *
   generalize viewD s3 = V3 at *
   obtain ⟨zo, hzo⟩ : ∃ z, wo.heap.size = z := ⟨_, rfl⟩
   have hzF := lh (fun k (q : F k) => show k < zo from by rw [← hzo]; exact hFl.out k q)
   have hzc := lh (fun w' (hc : Chg F wo w') => show zo ≤ w'.heap.size from by rw [← hzo]; exact hc.size)
   clear hFl
   replace hn9 := lh hn9
   replace ht11 := lh ht11
   replace ht10 := lh ht10
   obtain ⟨g0, g1⟩ := hgg.out _ hco
   -- the work of one span
   have eA := bZ wo (.cells #[.int .u8 (at' : Nat)] (5 : Nat))
   have kA := KL.one8 wo at'
   obtain ⟨wa, hwa⟩ : ∃ x, wo.alloc (.cells #[.int .u8 (at' : Nat)] (5 : Nat)) = x := ⟨_, rfl⟩
   rw [hwa] at eA kA
   have eM := bZ wa (.cells #[.int .u8 (mn : Nat)] (5 : Nat))
   have kM := KL.one8 wa mn
   obtain ⟨wm, hwm⟩ : ∃ x, wa.alloc (.cells #[.int .u8 (mn : Nat)] (5 : Nat)) = x := ⟨_, rfl⟩
   rw [hwm] at eM kM
   have hsa : wa.heap.size = wo.heap.size + 1 := by rw [← hwa]; simp
   rw [hsa] at kM
   have eW := bZ wm (.cells #[.slice (some ⟨wo.heap.size, 0, none⟩) 1 1, .slice (some ⟨wo.heap.size + 1, 0, none⟩) 1 1, .slice none 0 0, .slice none 0 0, .slice none 0 0] (31 : Nat))
   have gW := HB.new wm #[.slice (some ⟨wo.heap.size, 0, none⟩) 1 1, .slice (some ⟨wo.heap.size + 1, 0, none⟩) 1 1, .slice none 0 0, .slice none 0 0, .slice none 0 0] (31 : Nat)
   have hsm2 : wm.heap.size = wo.heap.size + 2 := by rw [← hwm]; simp [hsa]
   obtain ⟨ww, hww⟩ : ∃ x, wm.alloc (.cells #[.slice (some ⟨wo.heap.size, 0, none⟩) 1 1, .slice (some ⟨wo.heap.size + 1, 0, none⟩) 1 1, .slice none 0 0, .slice none 0 0, .slice none 0 0] (31 : Nat)) = x := ⟨_, rfl⟩
   rw [hww] at eW gW
   rw [hsm2] at gW
   have kA3 := (kA.keep eM).keep eW
   have kM3 := kM.keep eW
   have hBw : Below wo.heap.size wo ww := (eA.trans (eM.mono (by omega))).trans (eW.mono (by omega))
   have hDw := hD.keep hBw
   have hcw := hco.trans (Chg.of_below F hBw) (fun j q => .inl q)
   obtain ⟨gg0, gg1⟩ := hgg.out _ hcw
   rw [hzo] at kA3 kM3 gW hww
   have hSp1 := hSpn.out _ _ ww kA3 kM3
   have p0 := (row_cell gW 0).1
   have p1 := (row_cell gW 1).1
   have p2 := (row_cell gW 2).1
   have p3 := (row_cell gW 3).1
   have p4 := (row_cell gW 4).1
   clear kA kM kA3 kM3 eA eM eW hsa hsm2 hD hco hBw hSpn
   subst hww
   subst hwm
   subst hwa
   go_wp2_with fail
   refine hSp1.mono ?_
   rintro e w7 ⟨rfl, hb7⟩
   have hD7a := hDw.keep hb7
   have hc7a := hcw.trans (Chg.of_below F hb7) (fun j q => .inl q)
   have e8 := bZ w7 (.cells #[.int .i64 (pa : Nat), .int .i64 (pm : Nat)] (70 : Nat))
   have gP7 := HB.new w7 #[.int .i64 (pa : Nat), .int .i64 (pm : Nat)] (70 : Nat)
   obtain ⟨w8, hw8⟩ : ∃ x, w7.alloc (.cells #[.int .i64 (pa : Nat), .int .i64 (pm : Nat)] (70 : Nat)) = x := ⟨_, rfl⟩
   obtain ⟨Cs, hCs⟩ : ∃ C, w7.heap.size = C := ⟨_, rfl⟩
   rw [hw8] at e8 gP7
   rw [hCs] at gP7
   have hD8 := hD7a.keep e8
   have hc8 := hc7a.trans (Chg.of_below F e8) (fun j q => .inl q)
   have hnCs : ¬ F Cs := fun q => by have h1 := hzF.out _ q; have h2 := hzc.out _ hc7a; omega
   have hBg1 := hBg.out _ hD8
   have gg8 := hgg.out _ hc8
   obtain ⟨r0, r1⟩ := gg8
   clear hb7 e8 hD7a hc7a hSp1 p0 p1 p2 p3 p4 gW hDw hcw gg0 gg1 g0 g1 hBg hD8
   subst hw8
   go_wp2_with fail
   refine hBg1.mono ?_
   rintro e w9 ⟨rfl, hD9, hc9⟩
   have hc9' := hc8.trans hc9 (fun j q => .inl q)
   have gP9 := gP7.chgJ hc9 hnCs
   obtain ⟨u0, u1⟩ := gP9.c2
   obtain ⟨m0, m1⟩ := hgg.out _ hc9'
   have hNt1 := hNt.out _ hD9 (hw9.out _ (hbw.out _ hc9'))
   clear hBg1 r0 r1 hc9 hc8 gP7 hD9 hNt
   go_wp2_with fail
   refine hNt1.mono ?_
   rintro e w10 ⟨rfl, hD10, hc10⟩
   have hc10' := hc9'.trans hc10 (fun j q => .inl q)
   have gP10 := gP9.chgJ hc10 hnCs
   clear hNt1 u0 u1 m0 m1 hc10 hc9' gP9
   go_wp2_with fail
   refine (hSt2.out _ hD10).mono ?_
   rintro e w11 ⟨rfl, rfl⟩
   clear hSt2
   go_wp2_with fail
   refine (hVw2.out _ hD10).mono ?_
   rintro e w12 ⟨v12, rfl, hO12, hb12⟩
   obtain ⟨A12, c12, hv12, -⟩ := OwnU.form hO12
   rw [hVl2] at hv12
   cases hv12
   have hD12 := hD10.keep hb12
   have hc12 := hc10'.trans (Chg.of_below F hb12) (fun j q => .inl q)
   have gP12 := gP10.keep hb12
   have hn12 := lh (fun k' (e : (Value.slice A12 N c12).ownBlock = some k') (q : F k') => show False from by have h1 := (World.ownsRow.lt hO12 k' e).1; have h2 := hzF.out k' q; have h3 := hzc.out _ hc10'; omega)
   have hk12 := hO12.kl
   obtain ⟨u0, u1⟩ := gP12.c2
   have hn9I : 3 + (pm : Int) + 2 + 2 + 3 = (n9 : Int) := by have := hn9.out; omega
   have hn9b : n9 ≤ 100 := by have := hn9.out; omega
   clear hVw2 hD10 hb12 hO12 gP10 hc10'
   go_wp2_with fail
   refine (hDi.out _ hD12).mono ?_
   rintro e w13 ⟨A13, c13, rfl, hb13⟩
   have hD13 := hD12.keep hb13
   have hc13 := hc12.trans (Chg.of_below F hb13) (fun j q => .inl q)
   have gP13 := gP12.keep hb13
   have hk13 := hk12.keep hb13
   obtain ⟨m0, m1⟩ := hgg.out _ hc13
   clear hDi hD12 hb13 hc12 gP12 hk12 u0 u1 hn9I
   go_wp2_with fail
   refine (hLo.out _).mono ?_
   rintro e w14 ⟨rfl, hb14⟩
   obtain ⟨lf, hlf⟩ : ∃ l, 10 + L + kk * 72 = l := ⟨_, rfl⟩
   rw [hlf] at hsm ⊢
   have e15 := bZ w14 (.cells #[.int .i64 (lf : Nat), .int .i64 32] (70 : Nat))
   have gL15 := HB.new w14 #[.int .i64 (lf : Nat), .int .i64 32] (70 : Nat)
   obtain ⟨w15, hw15⟩ : ∃ x, w14.alloc (.cells #[.int .i64 (lf : Nat), .int .i64 32] (70 : Nat)) = x := ⟨_, rfl⟩
   obtain ⟨Cl, hCl⟩ : ∃ C, w14.heap.size = C := ⟨_, rfl⟩
   rw [hw15] at e15 gL15
   rw [hCl] at gL15
   have hB15 : Below w13.heap.size w13 w15 := hb14.trans (e15.mono hb14.size)
   have hD15 := hD13.keep hB15
   have hc15 := hc13.trans (Chg.of_below F hB15) (fun j q => .inl q)
   have gP15 := gP13.keep hB15
   have hk15 := hk13.keep hB15
   have hx15 := hkx.out _ hc15
   have lf9 : lf ≤ 400 := by omega
   obtain ⟨V9, d9, hv9, hf9⟩ := hk15.form hVl2
   cases hv9
   obtain ⟨gY, oY, rfl, hcY, -⟩ := hf9 w15 0 (Below.refl _ _) (by omega)
   obtain ⟨V9, d9, hv9, hf9⟩ := hx15.form hslen
   cases hv9
   obtain ⟨gX, oX, rfl, -, -⟩ := hf9 w15 0 (Below.refl _ _) (by omega)
   clear hf9 hD13 hc13 gP13 hk13 hb14 e15 hB15 m0 m1 hLo hkx
   replace hVl2 := lh hVl2
   replace hVl3 := lh hVl3
   replace hslen := lh hslen
   replace hlf := lh hlf
   subst hw15
   go_wp2_with fail
   go_loopw [22] (fun i wr => ∃ (j : Nat), j ≤ N ∧ i = .int .i64 (j : Nat) ∧ Below (w14.alloc (.cells #[.int .i64 (lf : Nat), .int .i64 32] (70 : Nat))).heap.size (w14.alloc (.cells #[.int .i64 (lf : Nat), .int .i64 32] (70 : Nat))) wr) (fun i _ => N + 1 - (intOf i).toNat)
   case atStart => exact ⟨0, Nat.zero_le _, rfl, Below.refl _ _⟩
   obtain ⟨j, hj, rfl, hb2⟩ := hrel
   by_cases hjN : j < N
   rotate_left
   ·obtain rfl : N = j := by omega
    have hjI : ¬ (N : Int) < (N : Int) := by omega
    have hDr := hD15.keep hb2
    have hcr := hc15.trans (Chg.of_below F hb2) (fun j q => .inl q)
    have hkr := hk15.keep hb2
    obtain ⟨m0, m1⟩ := hgg.out _ hcr
    have hDe1 := hDe.out _ hDr
    clear hD15 hc15 hk15 hb2 hx15 gL15 gP15 hDr hDe hsm
    go_wp2_with fail
    refine hDe1.mono ?_
    rintro e w16 ⟨rfl, hD16, hc16⟩
    have hc16' := hcr.trans hc16 (fun j q => .inl q)
    have hk16 := hkr.far hc16 (fun k' e q => hn12.out k' e q)
    have hVw31 := hVw3.out _ hD16
    clear hDe1 m0 m1 hc16 hcr hkr hVw3
    go_wp2_with fail
    refine hVw31.mono ?_
    rintro e w17 ⟨v17, rfl, hO17, hb17⟩
    obtain ⟨A17, c17, hv17, -⟩ := OwnU.form hO17
    rw [hVl3.out] at hv17
    cases hv17
    have hD17 := hD16.keep hb17
    have hc17 := hc16'.trans (Chg.of_below F hb17) (fun j q => .inl q)
    have hkY := hk16.keep hb17
    have hkZ := hO17.kl
    have hBe := hbw.out _ hc17
    obtain ⟨V9, d9, hv9, hf9⟩ := hkZ.form hVl3.out
    cases hv9
    obtain ⟨gZ, oZ, rfl, hcZ, -⟩ := hf9 w17 0 (Below.refl _ _) (by omega)
    obtain ⟨i0, hi0, hz0, hz1, hz2⟩ := info_parts infoU64
    have h11 : t11 = 11 + kk := ht11.out.symm
    have h10 : t10 = 10 + kk := ht10.out.symm
    have h11N : t11 < N := by omega
    have h10N : t10 < N := by omega
    have h11I : (t11 : Int) < (N : Int) := by omega
    have h10I : (t10 : Int) < (N : Int) := by omega
    have x1 : IntKind.i64.wrap (11 + (kk : Int)) = (t11 : Int) := (by rw [IntKind.wrap_i64]; omega)
    have x2 : IntKind.i64.wrap (10 + (kk : Int)) = (t10 : Int) := (by rw [IntKind.wrap_i64]; omega)
    have x3 : IntKind.i64.wrap ((n9 : Int) + 3) = (n9 : Int) + 3 := (by rw [IntKind.wrap_i64]; omega)
    have sf : ∀ (g o c : Nat), N ≤ c → ∀ w1, (Instr.slice 25 (.slice (some ⟨g, o, none⟩) N c) (some (.int .i64 (t11 : Int))) none none).run Tryz.prog w1 = .ok (.slice (some ⟨g, o + t11, none⟩) (N - t11) (c - t11)) w1 := fun g o c hc w1 => by
     have h := run_slice_from (P := Tryz.prog) (ty := 25) Tryz.underlying25 hi0 hz1 (some ⟨g, o, none⟩) N c t11 (by omega) w1
     rw [if_neg (by omega), Nat.mul_one] at h
     have e : Option.map (fun a : Addr => a.add t11) (some ⟨g, o, none⟩) = some ⟨g, o + t11, none⟩ := by rw [Option.map_some, WideShapes.add_plain]
     exact h.trans (by rw [← e])
    have sf1 := sf gZ oZ c17 hcZ
    have sf2 := sf gY oY c12 hcY
    have st1 := run_slice_to (P := Tryz.prog) (ty := 25) Tryz.underlying25 hi0 (some ⟨gZ, oZ, none⟩) N c17 t10 (by omega)
    have st2 := run_slice_to (P := Tryz.prog) (ty := 25) Tryz.underlying25 hi0 (some ⟨gY, oY, none⟩) N c12 t10 (by omega)
    have hkZd : KL .u64 w17 (.slice (some ⟨gZ, oZ + t11, none⟩) (N - t11) (c17 - t11)) (V3.drop t11) := by
     have h := KL.partC hkZ hVl3.out t11 (N - t11) (c17 - t11) (by omega) (by omega)
     rwa [List.take_of_length_le (by rw [List.length_drop, hVl3.out]; exact Nat.le_refl _)] at h
    have hkYd : KL .u64 w17 (.slice (some ⟨gY, oY + t11, none⟩) (N - t11) (c12 - t11)) (V2.drop t11) := by
     have h := KL.partC hkY hVl2.out t11 (N - t11) (c12 - t11) (by omega) (by omega)
     rwa [List.take_of_length_le (by rw [List.length_drop, hVl2.out]; exact Nat.le_refl _)] at h
    have hkZt := KL.take hkZ t10 (by rw [hVl3.out]; omega)
    have hkYt := KL.take hkY t10 (by rw [hVl2.out]; omega)
    have hW1 := lh (fun w' (hb : Below w17.heap.size w17 w') => words_any _ _ _ _ w' (by rw [List.length_drop, hVl3.out]; omega) (hkZd.keep hb) (hkYd.keep hb))
    rw [decide_eq_true hdr] at hW1
    have hW2 := lh (fun w' (hb : Below w17.heap.size w17 w') => words_any _ _ _ _ w' (by rw [List.length_take, hVl3.out]; omega) (hkZt.keep hb) (hkYt.keep hb))
    rw [decide_eq_true htk] at hW2
    have hSt := lh (fun w' (hb : Below w17.heap.size w17 w') => hSt3.out w' (hD17.keep hb))
    have cZ := hkZ.cellq (i := t10) (by rw [hVl3.out]; exact h10N)
    have cY := hkY.cellq (i := t10) (by rw [hVl2.out]; exact h10N)
    generalize V3.getD t10 0 = z at *
    generalize V2.getD t10 0 = y at *
    have hm1 : ¬ (z : Int) = (y : Int) := by omega
    have hm3 : ((z : Int) != (y : Int)) = true := bne_iff_ne.2 hm1
    have hCF := lh (fun w' (hb : Below w17.heap.size w17 w') => show w'.cell? ⟨gZ, oZ + t10, none⟩ = some (.int .u64 (z : Nat)) ∧ w'.cell? ⟨gY, oY + t10, none⟩ = some (.int .u64 (y : Nat)) from
     ⟨by rw [(bcell hb).1 _ _ cZ.2]; exact cZ.1, by rw [(bcell hb).1 _ _ cY.2]; exact cY.1⟩)
    clear sf hkZ hkY hkZd hkYd hkZt hkYt cZ cY hO17 hb17 hD16 hD17 hc16' hc17 hk16 hVw31 hf9 hdr htk hmk hSt3 hi0 hz0 hz1 hz2 h11 h10
    go_wp2_with fail
    refine wp_region_held_drew (S := (fun w' => Below w17.heap.size w17 w')) (by kernel_rfl) (Below.refl _ _).drew (fun hHeld => ?_)
    refine takeH 0 ?_
    refine takeH 1 ?_
    refine takeH 2 ?_
    refine takeH 3 ?_
    refine takeH 4 ?_
    refine takeH 5 ?_
    refine takeH 6 ?_
    refine takeH 7 ?_
    refine takeH 8 ?_
    refine takeH 9 ?_
    refine oneL 10 rfl (by kernel_rfl) (fun K hK => ?_)
    go_simp
    refine (hW1.out _ hHeld).mono ?_
    rintro e w18 ⟨rfl, hb⟩
    refine hK.out _ _ (hHeld.trans (hb.mono hHeld.size)) (fun hHeld2 => ?_)
    clear hK K hHeld
    have hHeld := hHeld2
    clear hHeld2
    try simp only [Act.put,sA,sB,sC]
    refine takeH 11 ?_
    refine takeH 12 ?_
    refine takeH 13 ?_
    refine takeH 14 ?_
    refine takeH 15 ?_
    refine takeH 16 ?_
    refine takeH 17 ?_
    refine takeH 18 ?_
    refine takeH 19 ?_
    refine takeH 20 ?_
    refine oneL 21 rfl (by kernel_rfl) (fun K hK => ?_)
    go_simp
    refine (hW2.out _ hHeld).mono ?_
    rintro e w19 ⟨rfl, hb⟩
    refine hK.out _ _ (hHeld.trans (hb.mono hHeld.size)) (fun hHeld2 => ?_)
    clear hK K hHeld
    have hHeld := hHeld2
    clear hHeld2
    try simp only [Act.put,sA,sB,sC]
    refine takeH 22 ?_
    refine takeH 23 ?_
    refine takeH 24 ?_
    refine takeH 25 ?_
    refine takeH 26 ?_
    refine takeH 27 ?_
    refine takeH 28 ?_
    refine takeH 29 ?_
    refine takeH 30 ?_
    refine takeH 31 ?_
    refine takeH 32 ?_
    refine takeH 33 ?_
    refine takeH 34 ?_
    refine takeH 35 ?_
    refine takeH 36 ?_
    refine takeH 37 ?_
    refine takeH 39 ?_
    refine takeH 40 ?_
    refine oneL 38 rfl (by kernel_rfl) (fun K hK => ?_)
    go_simp
    refine (hSt.out _ hHeld).mono ?_
    rintro e w20 ⟨rfl, hb⟩
    refine hK.out _ _ (hHeld.trans (hb.mono hHeld.size)) (fun hHeld2 => ?_)
    clear hK K hHeld
    have hHeld := hHeld2
    clear hHeld2
    try simp only [Act.put,sA,sB,sC]
    refine takeH 41 ?_
    refine takeH 42 ?_
    refine takeH 43 ?_
    refine wpAnyH_done (by kernel_rfl) ?_ _
    have hBz := hBe.trans (hHeld.mono hBe.size)
    go_wp2_with fail
    go_ret
    first | exact ⟨rfl, hBz⟩ | exact ⟨rfl, by rw [← hC0]; exact hBz⟩ | exact ⟨by simp, hBz⟩ | exact ⟨by simp, by rw [← hC0]; exact hBz⟩
   have hjI : (j : Int) < (N : Int) := by omega
   have hsj := hsm.out j hjN
   have kY := (hk15.keep hb2).cellq (i := j) (by rw [hVl2.out]; exact hjN)
   have kX := (hx15.keep hb2).cellq (i := j) (by rw [hslen.out]; exact hjN)
   have gLr := gL15.keep hb2
   have gPr := gP15.keep hb2
   generalize V2.getD j 0 = y at *
   generalize X.getD j 0 = x at *
   have hCF := lh (fun w' (hb : Below wr.heap.size wr w') => show w'.cell? ⟨gY, oY + j, none⟩ = some (.int .u64 (y : Nat)) ∧ w'.cell? ⟨gX, oX + j, none⟩ = some (.int .u64 (x : Nat)) ∧ w'.cell? ⟨Cl, 0, none⟩ = some (.int .i64 (lf : Nat)) ∧ w'.cell? ⟨Cs, 1, none⟩ = some (.int .i64 (pm : Nat)) from
    ⟨by rw [(bcell hb).1 _ _ kY.2]; exact kY.1, by rw [(bcell hb).1 _ _ kX.2]; exact kX.1, (gLr.keep hb).c2.1, (gPr.keep hb).c2.2⟩)
   have x1 : IntKind.i64.wrap (10 + (kk : Int)) = (t10 : Int) := (by have := ht10.out; rw [IntKind.wrap_i64]; omega)
   have x2 : IntKind.i64.wrap ((lf : Int) + (pm : Int)) = (lf : Int) + (pm : Int) := (by rw [IntKind.wrap_i64]; omega)
   have x3 : IntKind.i64.wrap ((lf : Int) + (pm : Int) + 2) = (lf : Int) + (pm : Int) + 2 := (by rw [IntKind.wrap_i64]; omega)
   clear kY kX gLr gPr
   by_cases hxy : x = y
   ·subst hxy
    clear hsj
    go_wp2_with fail
    refine wp_region_held_drew (S := (fun w' => Below wr.heap.size wr w')) (by kernel_rfl) (Below.refl _ _).drew (fun hHeld => ?_)
    refine takeH 0 ?_
    refine takeH 1 ?_
    refine takeH 2 ?_
    refine takeH 3 ?_
    refine takeH 4 ?_
    refine takeH 5 ?_
    refine takeH 6 ?_
    refine takeH 7 ?_
    refine takeH 8 ?_
    refine takeH 9 ?_
    refine idleQ 10 ?_
    refine idleQ 11 ?_
    refine idleQ 12 ?_
    refine idleQ 13 ?_
    refine takeH 14 ?_
    refine takeH 15 ?_
    refine idleQ 16 ?_
    refine idleQ 17 ?_
    refine idleQ 18 ?_
    refine idleQ 19 ?_
    refine idleQ 20 ?_
    refine idleQ 21 ?_
    refine idleQ 22 ?_
    refine idleQ 23 ?_
    refine idleQ 24 ?_
    refine idleQ 25 ?_
    refine idleQ 26 ?_
    refine idleQ 27 ?_
    refine idleQ 28 ?_
    refine idleQ 29 ?_
    refine takeH 30 ?_
    refine wpAnyH_done (by kernel_rfl) ?_ _
    have hb4 := hb2.trans (hHeld.mono hb2.size)
    clear hCF hHeld hb2
    go_wp2_with fail
    go_roundw
    case rel => exact ⟨j + 1, by omega, by go_num, hb4⟩
    first | (simp [intOf]; done) | (simp [intOf]; omega)
   have hx1 : ¬ (x : Int) = (y : Int) := by omega
   have hx3 : ((x : Int) != (y : Int)) = true := bne_iff_ne.2 hx1
   by_cases hjm : j = t10
   ·subst hjm
    clear hsj
    go_wp2_with fail
    refine wp_region_held_drew (S := (fun w' => Below wr.heap.size wr w')) (by kernel_rfl) (Below.refl _ _).drew (fun hHeld => ?_)
    refine takeH 0 ?_
    refine takeH 1 ?_
    refine takeH 2 ?_
    refine takeH 3 ?_
    refine takeH 4 ?_
    refine takeH 5 ?_
    refine takeH 6 ?_
    refine takeH 7 ?_
    refine takeH 8 ?_
    refine takeH 9 ?_
    refine takeH 10 ?_
    refine takeH 11 ?_
    refine takeH 12 ?_
    refine takeH 13 ?_
    refine takeH 14 ?_
    refine takeH 15 ?_
    refine idleQ 16 ?_
    refine idleQ 17 ?_
    refine idleQ 18 ?_
    refine idleQ 19 ?_
    refine idleQ 20 ?_
    refine idleQ 21 ?_
    refine idleQ 22 ?_
    refine idleQ 23 ?_
    refine idleQ 24 ?_
    refine idleQ 25 ?_
    refine idleQ 26 ?_
    refine idleQ 27 ?_
    refine idleQ 28 ?_
    refine idleQ 29 ?_
    refine takeH 30 ?_
    refine wpAnyH_done (by kernel_rfl) ?_ _
    have hb4 := hb2.trans (hHeld.mono hb2.size)
    clear hCF hHeld hb2
    go_wp2_with fail
    go_roundw
    case rel => exact ⟨j + 1, by omega, by go_num, hb4⟩
    first | (simp [intOf]; done) | (simp [intOf]; omega)
   have hlg : lf ≤ j ∧ j < lf + pm + 2 := by
    rcases hsj hxy with q | q
    ·exact absurd (q.trans ht10.out) hjm
    exact q
   have hj1 : ¬ (j : Int) = (t10 : Int) := by omega
   have hj3 : ((j : Int) != (t10 : Int)) = true := bne_iff_ne.2 hj1
   have hj4 : decide ((j : Int) < (lf : Int)) = false := decide_eq_false (by omega)
   have hj6 : decide (j < lf) = false := decide_eq_false (by omega)
   have hj7 : decide (lf + pm + 2 ≤ j) = false := decide_eq_false (by omega)
   have hj5 : decide ((lf : Int) + (pm : Int) + 2 ≤ (j : Int)) = false := decide_eq_false (by omega)
   clear hsj hxy
   go_wp2_with fail
   refine wp_region_held_drew (S := (fun w' => Below wr.heap.size wr w')) (by kernel_rfl) (Below.refl _ _).drew (fun hHeld => ?_)
   refine takeH 0 ?_
   refine takeH 1 ?_
   refine takeH 2 ?_
   refine takeH 3 ?_
   refine takeH 4 ?_
   refine takeH 5 ?_
   refine takeH 6 ?_
   refine takeH 7 ?_
   refine takeH 8 ?_
   refine takeH 9 ?_
   refine takeH 10 ?_
   refine takeH 11 ?_
   refine takeH 12 ?_
   refine takeH 13 ?_
   refine takeH 14 ?_
   refine takeH 15 ?_
   refine takeH 16 ?_
   refine takeH 17 ?_
   refine takeH 18 ?_
   refine takeH 19 ?_
   refine takeH 20 ?_
   refine takeH 21 ?_
   refine takeH 22 ?_
   refine takeH 23 ?_
   refine takeH 24 ?_
   refine takeH 25 ?_
   refine takeH 26 ?_
   refine takeH 27 ?_
   refine takeH 28 ?_
   refine takeH 29 ?_
   refine takeH 30 ?_
   refine wpAnyH_done (by kernel_rfl) ?_ _
   have hb4 := hb2.trans (hHeld.mono hb2.size)
   clear hCF hHeld hb2
   go_wp2_with fail
   go_roundw
   case rel => exact ⟨j + 1, by omega, by go_num, hb4⟩
   first | (simp [intOf]; done) | (simp [intOf]; omega)
end Go.Proofs.YtkkbngcgphlikaaGreatDoor
