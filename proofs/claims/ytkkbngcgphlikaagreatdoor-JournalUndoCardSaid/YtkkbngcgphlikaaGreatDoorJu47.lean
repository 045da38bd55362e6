/-
  Part of the proof of JournalUndo.
-/
import Derived.Test.YtkkbngcgphlikaaGreatDoorJu40
import Derived.Test.YtkkbngcgphlikaaGreatDoorRows
import Derived.Test.YtkkbngcgphlikaaGreatDoorJu0
set_option maxRecDepth 10000
set_option maxHeartbeats 16000000
set_option linter.unusedVariables false
set_option linter.unusedSimpArgs false
namespace Go.Proofs.YtkkbngcgphlikaaGreatDoor
open Go.Lib Go.RowKit Go.ChangeShapes Go.WideShapes Go.Deep Go.Shelf
def eH (x : Nat) : List Value := [.int .u16 (x : Nat)]
theorem eH_len (x : Nat) : (eH x).length = 1 := rfl
theorem infoH : (Tryz.prog.info? 66).map (fun i => (i.zero, i.size, i.bytes)) = some (some (.int .u16 0), 1, 2) := by kernel_rfl
theorem hT16 : ElT Tryz.prog 22 66 1 2 eH :=
 ⟨Tryz.underlying22, by obtain ⟨i0, h1, h2, h3, h4⟩ := info_parts infoH; exact ⟨i0, _, h1, h2, h3, h4, rfl⟩, eH_len, fun x u hu => by simp only [eH, List.mem_cons, List.not_mem_nil, or_false] at hu; subst hu; rfl, by decide, by decide⟩
theorem hRun {v : Value} {w : World} {base : Nat} {l : List Nat} (h : OwnE 66 1 eH w base v l) (hb : base ≤ w.heap.size) (hlen : l.length ≤ 1000000) (x : Nat) :
 ∃ v' w', (Builtin.append_ #[22, 22] 22 #[v, .slice (some ⟨w.heap.size, 0, none⟩) 1 1]).run Tryz.prog (w.alloc (.cells #[.int .u16 (x : Nat)] (66 : Nat))) = .ok v' w' ∧ OwnE 66 1 eH w' base v' (l ++ [x]) ∧ Below base w w' := by
 have hlit : EL 1 eH (w.alloc (.cells #[.int .u16 (x : Nat)] (66 : Nat))) (.slice (some ⟨w.heap.size, 0, none⟩) 1 1) [x] := (OwnE.lit 66 eH_len w [x] _ rfl (by simp)).el eH_len
 obtain ⟨v', w1, hrun, ho, hg, hl2, hnn⟩ := appE hT16 (h.alloc _) hlit (by simp; omega) (by omega) (by simp)
 exact ⟨v', w1, hrun, ho, ((bZ w _).mono hb).trans (grown_below hg (by simp; omega) (fun k q => (h.lt k q).1))⟩
theorem h_kl {w : World} {v : Value} {l : List Nat} (h : EL 1 eH w v l) : KL .u16 w v l := by
 obtain ⟨A, cap, hv, h⟩ := h
 refine ⟨A, cap, hv, fun hl => ?_⟩
 obtain ⟨g, off, hA, hg, hc, hcell⟩ := h hl
 refine ⟨g, off, hA, hg, hc, fun i hi => ?_⟩
 have h0 := hcell i hi 0 (by decide)
 rw [Nat.mul_one, Nat.add_zero] at h0
 exact h0
theorem filt_snoc {l : List Nat} {k : Nat} (h : k < l.length) (P : Nat → Bool) : (l.take (k + 1)).filter P = (l.take k).filter P ++ (if P (l.getD k 0) = true then [l.getD k 0] else []) := by
 rw [List.take_succ_eq_append_getElem h, List.filter_append, List.getD_eq_getElem?_getD, List.getElem?_eq_getElem h]
 congr 1
 show List.filter P [l[k]] = (if P l[k] = true then [l[k]] else [])
 rw [List.filter_cons]
 rfl
theorem stkS_WL {s : Sk} (hB : SkB s) {N L : Nat} {X : List Nat} (hX : WL X) {i : Nat} (hi : i ≤ 100000) {b : Bl} (hb : b.2.2 ≤ 4098) (hp : plc N L b < 18446744073709551616) : WL (stkS s N L X i b) := by
 have h1 : hdW (1 + oneN s.types i) (szS s i b.2.2) < 18446744073709551616 := by
  have := oneN_lt hB.y (by decide) i
  have : szS s i b.2.2 ≤ b.2.2 := by unfold szS; omega
  unfold hdW
  omega
 have h2 : 4294967296 * s.ep + (i + 1) < 18446744073709551616 := by have := hB.ep; omega
 have h3 : WL ((X.set (plc N L b) (hdW (1 + oneN s.types i) (szS s i b.2.2))).set (plc N L b + 1) (4294967296 * s.ep + (i + 1))) := (hX.setN _ _ h1).setN _ _ h2
 unfold stkS
 split
 ·exact h3.setN _ _ hp
 exact h3
theorem Stocked_any (s : Sk) (vT vY vE vF : Value) (w : World) (hw : Lw w) (hM : SkM w vT vY vE vF s) (hB : SkB s) (hfw : fewS s = true) :
 Calls Tryz.prog 12 #[skV s vT vY vE vF] w fun e w' => ∃ v', e = .returned v' ∧ OwnU w' w.heap.size v' (stockL s) ∧ Hid (WL (stockL s)) ∧ Below w.heap.size w w' := by
 obtain ⟨AT, cT, AY, cY, AE, cE, AF, cF, rfl, rfl, rfl, rfl⟩ := hM.sl
 have hfw2 := hfw
 unfold fewS at hfw2
 simp only [Bool.and_eq_true, decide_eq_true_eq] at hfw2
 obtain ⟨f1, f2, f3, f4⟩ := hfw2
 have hgf := gvS_few hfw
 have hgB := gvS_B hB
 obtain ⟨hg, hgN, hgat, hL1, hL3, hG1, hG8⟩ := gv_geo (gvS s)
 have hgl := gv_len (gvS s)
 have hNN : gvN (gvS s) = 10 + 73 * gvL (gvS s) + 33 * gvG (gvS s) := rfl
 have hbk := lh (fun b (h : b ∈ blI (makeL (gvS s)) (gvL (gvS s))) => stock_blk h)
 have hpb := lh (fun b (h : b ∈ blI (makeL (gvS s)) (gvL (gvS s))) => plc_bd (by rw [hgl.1]; exact hg) h)
 have hstl : stockL s = stkN s (gvN (gvS s)) (gvL (gvS s)) (blI (makeL (gvS s)) (gvL (gvS s))) (makeL (gvS s)) (blI (makeL (gvS s)) (gvL (gvS s))).length := rfl
 have hblen := bl_len (I := makeL (gvS s)) (L := gvL (gvS s)) (by rw [hgl.1]; exact hg)
 rw [hgl.1, hgat] at hblen
 have hGe := lh (fun A3 n3 c3 w1 => geom_any (gvS s) A3 AF none none n3 c3 s.fill.length cF 0 0 0 0 w1 hgB)
 have hMk := lh (fun A3 n3 c3 w1 (hb : Below w.heap.size w w1) (hn3 : n3 = (gvS s).tiles.length) (hk : KL .u16 w1 (.slice A3 n3 c3) (gvS s).tiles) => make_any (gvS s) (.slice A3 n3 c3) (.slice AF s.fill.length cF) (.slice none 0 0) (.slice none 0 0) [] w1 (hw.keep hb)
  ⟨hk, (hM.keep hb).f, EL.nil _ _ _ _ _, fun x hx => (by cases hx), fun x hx => (by cases hx), rfl, EL.nil _ _ _ _ _⟩ hgB hgf rfl rfl)
 have hPt := lh (fun (b : Bl) (hb : b ∈ blI (makeL (gvS s)) (gvL (gvS s))) w1 => by
  have h := hpb.out b hb
  rw [hgl.1] at h
  exact refPlace_any (gvN (gvS s)) (gvL (gvS s)) b.1 b.2.1 b.2.2 w1 hg h.1 (by omega) (by omega) (by omega))
 have hTb := lh (fun w1 => refTable_t (gvN (gvS s) : Nat) (gvL (gvS s) : Nat) w1 hg)
 rw [hgN] at hTb
 have hOe := lh (fun i w1 (hb : Below w.heap.size w w1) (hi : i ≤ 100000) => one16 (.slice AE s.less.length cE) s.less i w1 (hM.keep hb).e (by omega) hi hB.e)
 have hOy := lh (fun i w1 (hb : Below w.heap.size w w1) (hi : i ≤ 100000) => one16 (.slice AY s.types.length cY) s.types i w1 (hM.keep hb).y (by omega) hi hB.y)
 have hyb := lh (fun i => oneN_lt hB.y (by decide) i)
 have heb := lh (fun i => oneN_lt hB.e (by decide) i)
 have hBw := lh (fun (X : List Nat) (hX : WL X) (i : Nat) (hi : i ≤ 100000) (b : Bl) (hb : b.2.2 ≤ 4098) (hp : plc (gvN (gvS s)) (gvL (gvS s)) b < 18446744073709551616) => stkS_WL hB hX hi hb hp)
 obtain ⟨A0, c0, hv0, hFt⟩ := hM.t.form rfl
 cases hv0
 replace hFt := lh hFt
 have htb := lh hB.t
 have hep := hB.ep
 have hrt := hB.r
 have hwk := lh (fun w1 (hb : Below w.heap.size w w1) => hw.keep hb)
 have hgt : (gvS s).tiles = s.tiles.filter (fun x => !decide (x % 6 = 5)) := rfl
 have hga : (gvS s).a = s.a := rfl
 have hgb : (gvS s).b = s.b := rfl
 have hgr : (gvS s).root = 0 := rfl
 have hge : (gvS s).epoch = s.ep := rfl
 have hBd : s.a < 256 ∧ s.b < 256 := ⟨hB.a, hB.b⟩
 unfold gvV at hGe hMk
 rw [hga, hgb, hgr, hge] at hGe hMk
 rw [hgt] at hMk
 rw [hstl]
 obtain ⟨I, hI⟩ : ∃ I, makeL (gvS s) = I := ⟨_, rfl⟩
 obtain ⟨N, hN⟩ : ∃ N, gvN (gvS s) = N := ⟨_, rfl⟩
 obtain ⟨L, hL⟩ : ∃ L, gvL (gvS s) = L := ⟨_, rfl⟩
 obtain ⟨G, hG⟩ : ∃ G, gvG (gvS s) = G := ⟨_, rfl⟩
 rw [hI, hN] at hgl
 rw [hI, hL] at hbk hpb hPt hblen ⊢
 rw [hN, hL] at hGe hTb
 rw [hN] at hPt hBw ⊢
 rw [hL] at hBw
 rw [hI] at hMk
 rw [hN, hL] at hg hgat
 rw [hN, hL, hG] at hNN
 rw [hG] at hblen hTb hgat hG1 hG8
 have hN1 : 10 + 73 * L + 33 * G ≤ N := by omega
 have hN2 : N ≤ 10 + 73 * L + 33 * G := by omega
 clear hNN
 rw [hL] at hL1 hL3
 obtain ⟨R, hR⟩ : ∃ R, blI I L = R := ⟨_, rfl⟩
 rw [hR] at hbk hpb hPt hblen ⊢
 obtain ⟨nR, hnR⟩ : ∃ n, R.length = n := ⟨_, rfl⟩
 rw [hnR] at hblen ⊢
 obtain ⟨nT, hnT⟩ : ∃ n, s.tiles.length = n := ⟨_, rfl⟩
 obtain ⟨nY, hnY⟩ : ∃ n, s.types.length = n := ⟨_, rfl⟩
 obtain ⟨nE, hnE⟩ : ∃ n, s.less.length = n := ⟨_, rfl⟩
 obtain ⟨nF, hnF⟩ : ∃ n, s.fill.length = n := ⟨_, rfl⟩
 rw [hnT] at f1 hFt
 rw [hnY] at f2 hOy
 rw [hnE] at f3 hOe
 rw [hnF] at f4 hGe hMk
 rw [hnT, hnY, hnE, hnF]
 unfold skV
 clear hM hB hfw hgf hgB hw hgt hga hgb hgr hge hstl hN hG
 have hb0 := bZ w (.cells #[.int .u8 (s.a : Nat), .int .u8 (s.b : Nat), .slice AT nT cT, .slice AY nY cY, .slice AE nE cE, .int .u32 (s.ep : Nat), .int .u8 (s.root : Nat), .slice AF nF cF] 27)
 have gS := HB.new w #[.int .u8 (s.a : Nat), .int .u8 (s.b : Nat), .slice AT nT cT, .slice AY nY cY, .slice AE nE cE, .int .u32 (s.ep : Nat), .int .u8 (s.root : Nat), .slice AF nF cF] 27
 obtain ⟨wb1, hwb1⟩ : ∃ x, w.alloc (.cells #[.int .u8 (s.a : Nat), .int .u8 (s.b : Nat), .slice AT nT cT, .slice AY nY cY, .slice AE nE cE, .int .u32 (s.ep : Nat), .int .u8 (s.root : Nat), .slice AF nF cF] 27) = x := ⟨_, rfl⟩
 have hswb1 : wb1.heap.size = w.heap.size + 1 := by rw [← hwb1]; simp
 rw [hwb1] at hb0 gS
 have hB : Below w.heap.size w wb1 := hb0
 clear hb0
 go_enter Tryz.func12, Tryz.ntmps12
 have p2 := (row_cell gS 2).1
 subst hwb1
 go_wp2_with fail
 obtain ⟨wb1, hwb1⟩ : ∃ x, w.alloc (.cells #[.int .u8 (s.a : Nat), .int .u8 (s.b : Nat), .slice AT nT cT, .slice AY nY cY, .slice AE nE cE, .int .u32 (s.ep : Nat), .int .u8 (s.root : Nat), .slice AF nF cF] 27) = x := ⟨_, rfl⟩
 rw [hwb1] at hB gS
 clear p2
 go_loopw [4, 3] (fun i u wr => ∃ (j : Nat), j ≤ nT ∧ i = .int .i64 (j : Nat) ∧ OwnE 66 1 eH wr (w.heap.size + 1) u ((s.tiles.take j).filter (fun x => !decide (x % 6 = 5))) ∧ HB wr w.heap.size #[.int .u8 (s.a : Nat), .int .u8 (s.b : Nat), .slice AT nT cT, .slice AY nY cY, .slice AE nE cE, .int .u32 (s.ep : Nat), .int .u8 (s.root : Nat), .slice AF nF cF] 27 ∧ Below w.heap.size w wr) (fun i _ _ => nT + 1 - (intOf i).toNat)
 case atStart => exact ⟨0, Nat.zero_le _, rfl, World.ownsRow_nil _ _ _ _, by first | exact gS | (rw [← hwb1] at gS; exact gS), by first | exact hB | (rw [← hwb1] at hB; exact hB)⟩
 clear gS hB hwb1 hswb1
 obtain ⟨j, hj, rfl, ho, gS, hBr⟩ := hrel
 have p2 := (row_cell gS 2).1
 by_cases hlt : j < nT
 ·have hlt' : (j : Int) < (nT : Int) := by omega
  obtain ⟨gt, ot, rfl, hct, hgt, k0⟩ := hFt.out wr j hBr hlt
  have hsn := filt_snoc (l := s.tiles) (k := j) (by rw [hnT]; exact hlt) (fun x => !decide (x % 6 = 5))
  have hxb : s.tiles.getD j 0 < 65536 := by
   rw [List.getD_eq_getElem?_getD, List.getElem?_eq_getElem (by rw [hnT]; exact hlt)]
   exact htb.out _ (List.getElem_mem _)
  generalize s.tiles.getD j 0 = x at *
  obtain ⟨q, hq⟩ : ∃ q, x % 6 = q := ⟨_, rfl⟩
  have r1 : (x : Int) % 6 = (q : Int) := by omega
  by_cases hq5 : q = 5
  ·subst hq5
   have hs2 : (s.tiles.take (j + 1)).filter (fun x => !decide (x % 6 = 5)) = (s.tiles.take j).filter (fun x => !decide (x % 6 = 5)) := by
    rw [hsn, if_neg (by rw [decide_eq_true hq]; decide), List.append_nil]
   replace hs2 := lh hs2
   clear hsn hq
   go_wp2_with fail
   go_roundw
   case rel => exact ⟨j + 1, by omega, by go_num, by rw [hs2.out]; exact ho, gS, hBr⟩
   first | (simp [intOf]; done) | (simp [intOf]; omega)
  have hq5' : ¬ (q : Int) = 5 := by omega
  have hs2 : (s.tiles.take (j + 1)).filter (fun x => !decide (x % 6 = 5)) = (s.tiles.take j).filter (fun x => !decide (x % 6 = 5)) ++ [x] := by
   rw [hsn, if_pos (by rw [decide_eq_false (by omega)]; rfl)]
  have hfl := List.length_filter_le (fun x => !decide (x % 6 = 5)) (s.tiles.take j)
  rw [List.length_take] at hfl
  obtain ⟨v', w', hrun, ho', hb'⟩ := hRun ho (by have := gS.lt; omega) (by omega) x
  rw [← hs2] at ho'
  have gS' : HB w' w.heap.size _ _ := (hb'.block w.heap.size (by omega)).trans gS
  have hBr' := hBr.trans (hb'.mono (Nat.le_succ _))
  clear hsn hq hs2 hfl ho
  go_wp2_with (at_builtin; refine wpList_append_run rfl _ _ 22 rfl _ _ _ rfl rfl hrun ?_)
  go_roundw
  case rel => exact ⟨j + 1, by omega, by go_num, ho', gS', hBr'⟩
  first | (simp [intOf]; done) | (simp [intOf]; omega)
 obtain rfl : nT = j := by omega
 have hlt' : ¬ (nT : Int) < (nT : Int) := by omega
 have hta : s.tiles.take nT = s.tiles := List.take_of_length_le (by rw [hnT]; exact Nat.le_refl _)
 rw [hta] at ho
 obtain ⟨n3, hn3⟩ : ∃ n, (s.tiles.filter (fun x => !decide (x % 6 = 5))).length = n := ⟨_, rfl⟩
 have hk3 := h_kl (ho.el eH_len)
 obtain ⟨A3, c3, rfl, -⟩ := hk3.form hn3
 have z1 : IntKind.u64.wrap (s.ep : Int) = (s.ep : Int) := by rw [IntKind.wrap_u64]; omega
 have p0 := (row_cell gS 0).1
 have p1 := (row_cell gS 1).1
 have p5 := (row_cell gS 5).1
 have p7 := (row_cell gS 7).1
 have eG := bZ wr (.cells #[.int .u8 (s.a : Nat), .int .u8 (s.b : Nat), .slice A3 n3 c3, .slice AF nF cF, .slice none 0 0, .int .u64 ((0 : Nat) : Int), .int .u64 (s.ep : Nat), .slice none 0 0] 43)
 have gV := HB.new wr #[.int .u8 (s.a : Nat), .int .u8 (s.b : Nat), .slice A3 n3 c3, .slice AF nF cF, .slice none 0 0, .int .u64 ((0 : Nat) : Int), .int .u64 (s.ep : Nat), .slice none 0 0] 43
 have gSG := gS.keep eG
 have hBG := hBr.trans (eG.mono hBr.size)
 have hkG := hk3.keep eG
 obtain ⟨KV, hKV⟩ : ∃ K, wr.heap.size = K := ⟨_, rfl⟩
 have hKVl : w.heap.size + 1 ≤ KV := by have := gS.lt; omega
 rw [hKV] at gV
 have hMk1 := hMk.out A3 n3 c3 _ hBG hn3.symm hkG
 have v0 := row_cell gV 0
 clear ho hk3 eG hta hMk hFt
 go_wp2_with fail
 refine hMk1.mono ?_
 rintro e w6 ⟨v6, rfl, ho6, hW6, hb6⟩
 obtain ⟨A6, c6, hv6, hf6⟩ := OwnU.form ho6
 rw [hgl.1] at hv6 hf6
 cases hv6
 obtain ⟨B, rfl, hBl, hBu⟩ := hf6 (by omega)
 have hc6 : N ≤ c6 := by
  obtain ⟨A9, c9, hv9, h9⟩ := (OwnU.kl ho6).form hgl.1
  cases hv9
  obtain ⟨_, _, _, h2, _⟩ := h9 w6 0 (Below.refl _ _) (by omega)
  exact h2
 have hB6 := hBG.trans (hb6.mono hBG.size)
 have gS6 := gSG.keep hb6
 have gV6 := gV.keep hb6
 have ho6' : OwnU w6 w.heap.size _ I := ho6.mono hBG.size
 clear p0 p1 p2 p5 p7 v0 hMk1 hkG gSG gV hBG hb6 ho6 hf6 hBl hBu hBr gS
 have q0 := (row_cell gV6 0).1
 have q1 := (row_cell gV6 1).1
 have q2 := (row_cell gV6 2).1
 have q3 := (row_cell gV6 3).1
 have q4 := (row_cell gV6 4).1
 have q5 := (row_cell gV6 5).1
 have q6 := (row_cell gV6 6).1
 have q7 := (row_cell gV6 7).1
 have hGe1 := lh (fun w1 => hGe.out A3 n3 c3 w1)
 clear hGe
 go_wp2_with fail
 refine (hGe1.out _).mono ?_
 rintro e w7 ⟨rfl, hb7⟩
 have hB7 := hB6.trans (hb7.mono hB6.size)
 have gS7 := gS6.keep hb7
 have ho7 := ho6'.keep hb7
 clear q0 q1 q2 q3 q4 q5 q6 q7 hGe1 gV6 gS6 ho6' hB6 hb7
 have e8 := bZ w7 (.cells #[.int .i64 (N : Nat), .int .i64 (L : Nat)] 37)
 have gG := HB.new w7 #[.int .i64 (N : Nat), .int .i64 (L : Nat)] 37
 obtain ⟨w8, hw8⟩ : ∃ x, w7.alloc (.cells #[.int .i64 (N : Nat), .int .i64 (L : Nat)] 37) = x := ⟨_, rfl⟩
 rw [hw8] at e8 gG
 obtain ⟨Gb, hGb⟩ : ∃ K, w7.heap.size = K := ⟨_, rfl⟩
 rw [hGb] at gG
 have hB8 := hB7.trans (e8.mono hB7.size)
 have gS8 := gS7.keep e8
 have ho8 := ho7.keep e8
 obtain ⟨g0, g1⟩ := gG.c2
 obtain ⟨F, hF⟩ : ∃ F, 10 + 73 * L = F := ⟨_, rfl⟩
 have hTb8 : Calls Tryz.prog 37 #[.agg #[.int .i64 (N : Nat), .int .i64 (L : Nat)]] w8 (fun e w' => e = .returned (.agg #[.int .i64 (F : Nat), .int .i64 (G : Nat)]) ∧ Below w8.heap.size w8 w') := by
  have h := hTb.out w8
  rw [show (10 + 73 * (L : Int)) = ((F : Nat) : Int) from by omega] at h
  exact h
 clear e8 gS7 ho7 hB7 hTb
 subst hw8
 go_wp2_with fail
 refine hTb8.mono ?_
 rintro e w9 ⟨rfl, hb9⟩
 have hB9 := hB8.trans (hb9.mono hB8.size)
 have gS9 := gS8.keep hb9
 have gG9 := gG.keep hb9
 have ho9 := ho8.keep hb9
 have hPa := part15_any B 0 N c6 F G w9 (by omega) hc6 (by omega) (by omega)
 clear g0 g1 hTb8 hb9 hB8 gS8 gG ho8
 go_wp2_with fail
 refine hPa.mono ?_
 rintro e wA ⟨rfl, hbA⟩
 have hBA := hB9.trans (hbA.mono hB9.size)
 have gSA := gS9.keep hbA
 have gGA := gG9.keep hbA
 have hoA := ho9.keep hbA
 have htl : (tabW I L).length = G := by rw [tab_len (by rw [hgl.1]; exact hg), hgl.1, hgat]
 have hkA : KL .u64 wA (.slice (some ⟨B, F, none⟩) G (c6 - F)) (tabW I L) := by
  have h := KL.partC hoA.kl hgl.1 F G (c6 - F) (by omega) (by omega)
  rw [Nat.zero_add] at h
  unfold tabW; rw [hgl.1, hgat, hF]; exact h
 have htW : WL (tabW I L) := fun x hx => hW6.out x (by unfold tabW at hx; exact List.mem_of_mem_drop (List.mem_of_mem_take hx))
 have hBk := refBlocks_any _ (tabW I L) wA (hwk.out _ hBA) hkA htW (by omega)
 rw [show blksT (tabW I L) = R from hR] at hBk
 clear hPa hbA hB9 gS9 gG9 ho9 htl hkA htW
 go_wp2_with fail
 refine hBk.mono ?_
 rintro e wB ⟨vB, rfl, hoB, hbB⟩
 obtain ⟨A8, c8, rfl, -⟩ := BKO.formB hoB hnR
 have hSB : SkS w w.heap.size Gb #[.int .u8 (s.a : Nat), .int .u8 (s.b : Nat), .slice AT nT cT, .slice AY nY cY, .slice AE nE cE, .int .u32 (s.ep : Nat), .int .u8 (s.root : Nat), .slice AF nF cF] #[.int .i64 (N : Nat), .int .i64 (L : Nat)] B N c6 A8 nR c8 R I wB := ⟨hoA.keep hbB, hgl.1, gSA.keep hbB, gGA.keep hbB, hoB.mono hBA.size, hBA.trans (hbB.mono hBA.size)⟩
 clear hBk hBA gSA gGA hoA hoB hbB
 go_wp2_with fail
 go_loopw [9] (fun i wr => ∃ (j : Nat), j ≤ nR ∧ i = .int .i64 (j : Nat) ∧ Hid (WL (stkN s N L R I j)) ∧ SkS w w.heap.size Gb #[.int .u8 (s.a : Nat), .int .u8 (s.b : Nat), .slice AT nT cT, .slice AY nY cY, .slice AE nE cE, .int .u32 (s.ep : Nat), .int .u8 (s.root : Nat), .slice AF nF cF] #[.int .i64 (N : Nat), .int .i64 (L : Nat)] B N c6 A8 nR c8 R (stkN s N L R I j) wr) (fun i _ => nR + 1 - (intOf i).toNat)
 case atStart => exact ⟨0, Nat.zero_le _, rfl, hW6, hSB⟩
 clear hSB hW6
 obtain ⟨i, hi, rfl, hWr, hS⟩ := hrel
 by_cases hli : i < nR
 rotate_left
 ·obtain rfl : nR = i := by omega
  have hli' : ¬ (nR : Int) < (nR : Int) := by omega
  have hoe := hS.o
  have hbe := hS.below
  go_wp2_with fail
  go_ret
  first | exact ⟨_, rfl, hoe, hWr, hbe⟩ | exact ⟨_, rfl, hoe, hbe⟩
 have hi1000 : i ≤ 1000 := by omega
 have hli' : (i : Int) < (nR : Int) := by omega
 have hmem : R.getD i default ∈ R := by rw [List.getD_eq_getElem?_getD, List.getElem?_eq_getElem (by rw [hnR]; exact hli)]; exact List.getElem_mem _
 have hm4 := hbk.out _ hmem
 have hpb1 := hpb.out _ hmem
 have hPt1 := hPt.out _ hmem
 have hBw1 := hBw.out _ hWr.out i (by omega) (R.getD i default)
 have hstep : stkN s N L R I (i + 1) = stkS s N L (stkN s N L R I i) i (R.getD i default) := rfl
 rw [hgl.1] at hpb1
 obtain ⟨A9, c9, hv9, hF9⟩ := BKO.formB hS.b hnR
 cases hv9
 obtain ⟨g5, o5, rfl, hc5, hg5, -, k0, k1, k2⟩ := hF9 wr i (Below.refl _ _) hli
 generalize R.getD i default = b at *
 obtain ⟨bc, bj, bm⟩ := b
 simp only [] at k0 k1 k2 hm4 hpb1 hPt1 hBw1
 obtain ⟨u1, u2, u3, u4, u5, u6, u7⟩ := hpb1
 have hBw2 := hBw1 (by omega) (by omega)
 rw [← hstep] at hBw2
 obtain ⟨p, hp⟩ : ∃ p, plc N L (bc, bj, bm) = p := ⟨_, rfl⟩
 rw [hp] at hPt1 u6 u7
 obtain ⟨r, hr⟩ : ∃ r, oneN s.less i = r := ⟨_, rfl⟩
 obtain ⟨ry, hry⟩ : ∃ r, oneN s.types i = r := ⟨_, rfl⟩
 have hr256 := heb.out i
 have hy256 := hyb.out i
 rw [hr] at hr256
 rw [hry] at hy256
 have hOe1 := lh (fun w1 hb => hOe.out i w1 hb (by omega))
 have hOy1 := lh (fun w1 hb => hOy.out i w1 hb (by omega))
 rw [hr] at hOe1
 rw [hry] at hOy1
 have hstk : ∀ X, stkS s N L X i (bc, bj, bm) = (if s.root = i + 1 then ((X.set p (hdW (1 + ry) (szS s i bm))).set (p + 1) (4294967296 * s.ep + (i + 1))).set 8 p else (X.set p (hdW (1 + ry) (szS s i bm))).set (p + 1) (4294967296 * s.ep + (i + 1))) := fun X => by unfold stkS; rw [hp, hry]
 have hsz : szS s i bm = bm - 2 - (if bm = 4 then r % 3 else if bm = 8 then r % 4 else if bm = 16 then r % 8 else r % 16) := by unfold szS; rw [hr]
 rw [hstk] at hstep
 obtain ⟨X, hX⟩ : ∃ X, stkN s N L R I i = X := ⟨_, rfl⟩
 rw [hX] at hS hstep
 clear hmem hBw1 hWr hX hstk hr hry hpb hF9
 rcases hm4 with hmm | hmm | hmm | ⟨hmm, hmm2⟩
 ·subst hmm
  replace hPt1 := lh (fun w1 => show Calls Tryz.prog 50 #[.agg #[.int .i64 (N : Nat), .int .i64 (L : Nat)], .agg #[.int .i64 (bc : Nat), .int .i64 (bj : Nat), .int .i64 4]] w1 (fun e w' => e = .returned (.int .i64 (p : Nat)) ∧ Below w1.heap.size w1 w') from hPt1 w1)
  replace k2 : wr.cell? ⟨g5, o5 + i * 3 + 2, none⟩ = some (.int .i64 4) := k2
  have e4 := bZ wr (.cells #[.int .i64 (bc : Nat), .int .i64 (bj : Nat), .int .i64 4] 93)
  have gK := HB.new wr #[.int .i64 (bc : Nat), .int .i64 (bj : Nat), .int .i64 4] 93
  obtain ⟨w4, hw4⟩ : ∃ x, wr.alloc (.cells #[.int .i64 (bc : Nat), .int .i64 (bj : Nat), .int .i64 4] 93) = x := ⟨_, rfl⟩
  rw [hw4] at e4 gK
  obtain ⟨Kb, hKb⟩ : ∃ K, wr.heap.size = K := ⟨_, rfl⟩
  rw [hKb] at gK
  have hS4 := hS.keep e4
  have gs4 := (row_cell hS4.s 4).1
  have t0 := (row_cell gK 0).1
  have t1 := (row_cell gK 1).1
  have t2 := (row_cell gK 2).1
  have hBl4 := hS4.below
  have hOe4 := hOe1.out w4 hBl4
  clear e4 hS hOe1 hOe
  obtain ⟨q, hq⟩ : ∃ q, r % 3 = q := ⟨_, rfl⟩
  have x1 : (r : Int) % 3 = (q : Int) := by omega
  obtain ⟨sz, hszE⟩ : ∃ z, szS s i 4 = z := ⟨_, rfl⟩
  rw [if_pos rfl] at hsz
  have x2 : (2 : Int) - (q : Int) = (sz : Int) := by omega
  rw [hszE] at hstep
  have x3 : IntKind.i64.wrap (sz : Int) = (sz : Int) := wrapQ_so _ (by omega) (by omega)
  have hsz4 : sz ≤ 4096 := by omega
  clear hsz hq hszE
  go_wp2_with fail
  refine hOe4.mono ?_
  rintro e w5 ⟨rfl, hb5⟩
  have hS5 := hS4.keep hb5
  have gK5 := gK.keep hb5
  obtain ⟨g0, g1⟩ := hS5.g.c2
  clear t0 t1 t2 gs4 gK hS4 hBl4 hOe4 hb5
  have t0 := (row_cell gK5 0).1
  have t1 := (row_cell gK5 1).1
  have t2 := (row_cell gK5 2).1
  go_wp2_with fail
  refine (hPt1.out _).mono ?_
  rintro e w6 ⟨rfl, hb6⟩
  have hS6 := hS5.keep hb6
  have hBl6 := hS6.below
  have gs6 := (row_cell hS6.s 6).1
  clear t0 t1 t2 g0 g1 gK5 hS5 hb6 hPt1 x1 x2 x3
  obtain ⟨ty, hty⟩ : ∃ t, 1 + ry = t := ⟨_, rfl⟩
  have y3 : (1 : Int) + (ry : Int) = (ty : Int) := by omega
  have y4 : IntKind.i64.wrap (ty : Int) = (ty : Int) := wrapQ_so _ (by omega) (by omega)
  obtain ⟨E, hE⟩ : ∃ e, 4294967296 * s.ep = e := ⟨_, rfl⟩
  have y5 : (4294967296 : Int) * (s.ep : Int) = (E : Int) := by omega
  have y6 : IntKind.u64.wrap (E : Int) = (E : Int) := by rw [IntKind.wrap_u64]; omega
  obtain ⟨i1, hi1⟩ : ∃ e, i + 1 = e := ⟨_, rfl⟩
  have y7 : (i : Int) + 1 = (i1 : Int) := by omega
  have y8 : IntKind.i64.wrap (i1 : Int) = (i1 : Int) := wrapQ_so _ (by omega) (by omega)
  have y9 : IntKind.u64.wrap (i1 : Int) = (i1 : Int) := by rw [IntKind.wrap_u64]; omega
  obtain ⟨sn, hsn⟩ : ∃ e, E + i1 = e := ⟨_, rfl⟩
  have ya : (E : Int) + (i1 : Int) = (sn : Int) := by omega
  have yb : IntKind.u64.wrap (sn : Int) = (sn : Int) := by rw [IntKind.wrap_u64]; omega
  have ye : IntKind.u64.wrap (s.ep : Int) = (s.ep : Int) := by rw [IntKind.wrap_u64]; omega
  rw [hty, hE, hi1, hsn] at hstep
  rw [hi1] at hBw2
  have hEn := lh (fun w1 => encY ty sz sn w1 (hd_t.2 (by omega)))
  have hCF := lh (fun w' (hb : Below w6.heap.size w6 w') => show w'.cell? ⟨w.heap.size, 3, none⟩ = some (.slice AY nY cY) ∧ w'.cell? ⟨w.heap.size, 5, none⟩ = some (.int .u32 (s.ep : Nat)) from ⟨(row_cell (hS6.s.keep hb) 3).1, (row_cell (hS6.s.keep hb) 5).1⟩)
  have hOy6 := lh (fun w1 (hb : Below w6.heap.size w6 w1) => hOy1.out w1 (hBl6.trans (hb.mono hBl6.size)))
  have hBlt := hS6.base
  clear gs6 hOy1
  go_wp2_with fail
  refine wp_region_held_drew (S := (fun w' => Below w6.heap.size w6 w')) (by kernel_rfl) (Below.refl _ _).drew (fun hHeld => ?_)
  refine takeH 0 ?_
  refine takeH 1 ?_
  refine takeH 2 ?_
  refine takeH 5 ?_
  refine takeH 6 ?_
  refine takeH 7 ?_
  refine takeH 8 ?_
  refine takeH 9 ?_
  refine takeH 10 ?_
  refine takeH 11 ?_
  refine takeH 12 ?_
  refine takeH 13 ?_
  refine oneL 3 rfl (by kernel_rfl) (fun K hK => ?_)
  go_simp
  refine (hOy6.out _ hHeld).mono ?_; rintro e w8 ⟨rfl, hb⟩
  refine hK.out _ _ (hHeld.trans (hb.mono hHeld.size)) (fun hHeld2 => ?_)
  clear hK K hHeld
  have hHeld := hHeld2
  clear hHeld2
  try simp only [Act.put,sA,sB,sC]
  refine takeH 4 ?_
  refine takeH 14 ?_
  refine oneL 15 rfl (by kernel_rfl) (fun K hK => ?_)
  go_simp
  refine (hEn.out _).mono ?_; rintro e w9 ⟨bq, rfl, hbq, hC2, hb⟩
  have hbq2 : w6.heap.size ≤ bq := Nat.le_trans hHeld.size hbq
  refine hK.out _ _ (hHeld.trans (hb.mono hHeld.size)) (fun hHeld2 => ?_)
  clear hK K hHeld
  have hHeld := hHeld2
  clear hHeld2
  try simp only [Act.put,sA,sB,sC]
  refine takeH 16 ?_
  refine takeH 17 ?_
  refine takeH 18 ?_
  refine takeH 19 ?_
  refine takeH 20 ?_
  refine wpAnyH_done (by kernel_rfl) ?_ _
  have hS9 := hS6.keep hHeld
  clear hCF hOy6 hEn hS6 hBl6 y3 y4 y5 y6 y9 ya yb ye
  obtain ⟨d0, d1⟩ := hC2
  have hne : ¬ bq = B := by have := hBlt.2; have := hHeld.size; omega
  have hne2 : ¬ B = bq := fun e => hne e.symm
  obtain ⟨a0, b0⟩ := hS9.o.cell hS9.l (i := p) (by omega)
  obtain ⟨p1, hp1⟩ : ∃ q, p + 1 = q := ⟨_, rfl⟩
  have yp : (p : Int) + 1 = (p1 : Int) := by omega
  have yq : IntKind.i64.wrap (p1 : Int) = (p1 : Int) := wrapQ_so _ (by omega) (by omega)
  have hpN : (p : Int) < (N : Int) := by omega
  have hp1N : (p1 : Int) < (N : Int) := by omega
  rw [hp1] at hstep
  have hT1 := hS9.set p (hdW ty sz) (by omega)
  obtain ⟨a1, b1⟩ := hT1.o.cell hT1.l (i := p1) (by omega)
  have d1' : (w9.setCell ⟨B, p, none⟩ (.int .u64 (hdW ty sz : Nat))).cell? ⟨bq, 1, none⟩ = some (.int .u64 (sn : Nat)) := by rw [World.cell?_setCell_far _ _ _ _ hne2]; exact d1
  have hT2 := hT1.set p1 sn (by omega)
  have gs9 := (row_cell hT2.s 6).1
  have yr : IntKind.i64.wrap (s.root : Int) = (s.root : Int) := wrapQ_so _ (by omega) (by omega)
  obtain ⟨a2, b2⟩ := hT2.o.cell hT2.l (i := 8) (by omega)
  have hT3 := hT2.set 8 p (by omega)
  have yv : IntKind.u64.wrap (p : Int) = (p : Int) := by rw [IntKind.wrap_u64]; omega
  have h8N : (8 : Int) < (N : Int) := by omega
  replace hT1 := lh hT1
  replace hT2 := lh hT2
  replace hT3 := lh hT3
  clear hS9
  by_cases hro : s.root = i1
  ·rw [if_pos hro] at hstep
   have hro' : (s.root : Int) = (i1 : Int) := by omega
   have hSE := hT3.out
   rw [← hstep] at hSE
   replace hSE := lh hSE
   replace hstep := lh hstep
   replace hro := lh hro
   clear hHeld
   go_wp2_with fail
   go_roundw
   case rel => exact ⟨i1, by omega, by first | rfl | go_num, lh hBw2, hSE.out⟩
   first | (simp [intOf]; done) | (simp [intOf]; omega)
  rw [if_neg hro] at hstep
  have hro' : ¬ (s.root : Int) = (i1 : Int) := by omega
  have hro2 : ((s.root : Int) == (i1 : Int)) = false := beq_eq_false_iff_ne.2 hro'
  have hSE := hT2.out
  rw [← hstep] at hSE
  replace hSE := lh hSE
  replace hstep := lh hstep
  clear hHeld
  go_wp2_with fail
  go_roundw
  case rel => exact ⟨i1, by omega, by first | rfl | go_num, lh hBw2, hSE.out⟩
  first | (simp [intOf]; done) | (simp [intOf]; omega)
 ·subst hmm
  replace hPt1 := lh (fun w1 => show Calls Tryz.prog 50 #[.agg #[.int .i64 (N : Nat), .int .i64 (L : Nat)], .agg #[.int .i64 (bc : Nat), .int .i64 (bj : Nat), .int .i64 8]] w1 (fun e w' => e = .returned (.int .i64 (p : Nat)) ∧ Below w1.heap.size w1 w') from hPt1 w1)
  replace k2 : wr.cell? ⟨g5, o5 + i * 3 + 2, none⟩ = some (.int .i64 8) := k2
  have e4 := bZ wr (.cells #[.int .i64 (bc : Nat), .int .i64 (bj : Nat), .int .i64 8] 93)
  have gK := HB.new wr #[.int .i64 (bc : Nat), .int .i64 (bj : Nat), .int .i64 8] 93
  obtain ⟨w4, hw4⟩ : ∃ x, wr.alloc (.cells #[.int .i64 (bc : Nat), .int .i64 (bj : Nat), .int .i64 8] 93) = x := ⟨_, rfl⟩
  rw [hw4] at e4 gK
  obtain ⟨Kb, hKb⟩ : ∃ K, wr.heap.size = K := ⟨_, rfl⟩
  rw [hKb] at gK
  have hS4 := hS.keep e4
  have gs4 := (row_cell hS4.s 4).1
  have t0 := (row_cell gK 0).1
  have t1 := (row_cell gK 1).1
  have t2 := (row_cell gK 2).1
  have hBl4 := hS4.below
  have hOe4 := hOe1.out w4 hBl4
  clear e4 hS hOe1 hOe
  obtain ⟨q, hq⟩ : ∃ q, r % 4 = q := ⟨_, rfl⟩
  have x1 : (r : Int) % 4 = (q : Int) := by omega
  obtain ⟨sz, hszE⟩ : ∃ z, szS s i 8 = z := ⟨_, rfl⟩
  rw [if_neg (by decide), if_pos rfl] at hsz
  have x2 : (6 : Int) - (q : Int) = (sz : Int) := by omega
  rw [hszE] at hstep
  have x3 : IntKind.i64.wrap (sz : Int) = (sz : Int) := wrapQ_so _ (by omega) (by omega)
  have hsz4 : sz ≤ 4096 := by omega
  clear hsz hq hszE
  go_wp2_with fail
  refine hOe4.mono ?_
  rintro e w5 ⟨rfl, hb5⟩
  have hS5 := hS4.keep hb5
  have gK5 := gK.keep hb5
  obtain ⟨g0, g1⟩ := hS5.g.c2
  clear t0 t1 t2 gs4 gK hS4 hBl4 hOe4 hb5
  have t0 := (row_cell gK5 0).1
  have t1 := (row_cell gK5 1).1
  have t2 := (row_cell gK5 2).1
  go_wp2_with fail
  refine (hPt1.out _).mono ?_
  rintro e w6 ⟨rfl, hb6⟩
  have hS6 := hS5.keep hb6
  have hBl6 := hS6.below
  have gs6 := (row_cell hS6.s 6).1
  clear t0 t1 t2 g0 g1 gK5 hS5 hb6 hPt1 x1 x2 x3
  obtain ⟨ty, hty⟩ : ∃ t, 1 + ry = t := ⟨_, rfl⟩
  have y3 : (1 : Int) + (ry : Int) = (ty : Int) := by omega
  have y4 : IntKind.i64.wrap (ty : Int) = (ty : Int) := wrapQ_so _ (by omega) (by omega)
  obtain ⟨E, hE⟩ : ∃ e, 4294967296 * s.ep = e := ⟨_, rfl⟩
  have y5 : (4294967296 : Int) * (s.ep : Int) = (E : Int) := by omega
  have y6 : IntKind.u64.wrap (E : Int) = (E : Int) := by rw [IntKind.wrap_u64]; omega
  obtain ⟨i1, hi1⟩ : ∃ e, i + 1 = e := ⟨_, rfl⟩
  have y7 : (i : Int) + 1 = (i1 : Int) := by omega
  have y8 : IntKind.i64.wrap (i1 : Int) = (i1 : Int) := wrapQ_so _ (by omega) (by omega)
  have y9 : IntKind.u64.wrap (i1 : Int) = (i1 : Int) := by rw [IntKind.wrap_u64]; omega
  obtain ⟨sn, hsn⟩ : ∃ e, E + i1 = e := ⟨_, rfl⟩
  have ya : (E : Int) + (i1 : Int) = (sn : Int) := by omega
  have yb : IntKind.u64.wrap (sn : Int) = (sn : Int) := by rw [IntKind.wrap_u64]; omega
  have ye : IntKind.u64.wrap (s.ep : Int) = (s.ep : Int) := by rw [IntKind.wrap_u64]; omega
  rw [hty, hE, hi1, hsn] at hstep
  rw [hi1] at hBw2
  have hEn := lh (fun w1 => encY ty sz sn w1 (hd_t.2 (by omega)))
  have hCF := lh (fun w' (hb : Below w6.heap.size w6 w') => show w'.cell? ⟨w.heap.size, 3, none⟩ = some (.slice AY nY cY) ∧ w'.cell? ⟨w.heap.size, 5, none⟩ = some (.int .u32 (s.ep : Nat)) from ⟨(row_cell (hS6.s.keep hb) 3).1, (row_cell (hS6.s.keep hb) 5).1⟩)
  have hOy6 := lh (fun w1 (hb : Below w6.heap.size w6 w1) => hOy1.out w1 (hBl6.trans (hb.mono hBl6.size)))
  have hBlt := hS6.base
  clear gs6 hOy1
  go_wp2_with fail
  refine wp_region_held_drew (S := (fun w' => Below w6.heap.size w6 w')) (by kernel_rfl) (Below.refl _ _).drew (fun hHeld => ?_)
  refine takeH 0 ?_
  refine takeH 1 ?_
  refine takeH 2 ?_
  refine takeH 5 ?_
  refine takeH 6 ?_
  refine takeH 7 ?_
  refine takeH 8 ?_
  refine takeH 9 ?_
  refine takeH 10 ?_
  refine takeH 11 ?_
  refine takeH 12 ?_
  refine takeH 13 ?_
  refine oneL 3 rfl (by kernel_rfl) (fun K hK => ?_)
  go_simp
  refine (hOy6.out _ hHeld).mono ?_; rintro e w8 ⟨rfl, hb⟩
  refine hK.out _ _ (hHeld.trans (hb.mono hHeld.size)) (fun hHeld2 => ?_)
  clear hK K hHeld
  have hHeld := hHeld2
  clear hHeld2
  try simp only [Act.put,sA,sB,sC]
  refine takeH 4 ?_
  refine takeH 14 ?_
  refine oneL 15 rfl (by kernel_rfl) (fun K hK => ?_)
  go_simp
  refine (hEn.out _).mono ?_; rintro e w9 ⟨bq, rfl, hbq, hC2, hb⟩
  have hbq2 : w6.heap.size ≤ bq := Nat.le_trans hHeld.size hbq
  refine hK.out _ _ (hHeld.trans (hb.mono hHeld.size)) (fun hHeld2 => ?_)
  clear hK K hHeld
  have hHeld := hHeld2
  clear hHeld2
  try simp only [Act.put,sA,sB,sC]
  refine takeH 16 ?_
  refine takeH 17 ?_
  refine takeH 18 ?_
  refine takeH 19 ?_
  refine takeH 20 ?_
  refine wpAnyH_done (by kernel_rfl) ?_ _
  have hS9 := hS6.keep hHeld
  clear hCF hOy6 hEn hS6 hBl6 y3 y4 y5 y6 y9 ya yb ye
  obtain ⟨d0, d1⟩ := hC2
  have hne : ¬ bq = B := by have := hBlt.2; have := hHeld.size; omega
  have hne2 : ¬ B = bq := fun e => hne e.symm
  obtain ⟨a0, b0⟩ := hS9.o.cell hS9.l (i := p) (by omega)
  obtain ⟨p1, hp1⟩ : ∃ q, p + 1 = q := ⟨_, rfl⟩
  have yp : (p : Int) + 1 = (p1 : Int) := by omega
  have yq : IntKind.i64.wrap (p1 : Int) = (p1 : Int) := wrapQ_so _ (by omega) (by omega)
  have hpN : (p : Int) < (N : Int) := by omega
  have hp1N : (p1 : Int) < (N : Int) := by omega
  rw [hp1] at hstep
  have hT1 := hS9.set p (hdW ty sz) (by omega)
  obtain ⟨a1, b1⟩ := hT1.o.cell hT1.l (i := p1) (by omega)
  have d1' : (w9.setCell ⟨B, p, none⟩ (.int .u64 (hdW ty sz : Nat))).cell? ⟨bq, 1, none⟩ = some (.int .u64 (sn : Nat)) := by rw [World.cell?_setCell_far _ _ _ _ hne2]; exact d1
  have hT2 := hT1.set p1 sn (by omega)
  have gs9 := (row_cell hT2.s 6).1
  have yr : IntKind.i64.wrap (s.root : Int) = (s.root : Int) := wrapQ_so _ (by omega) (by omega)
  obtain ⟨a2, b2⟩ := hT2.o.cell hT2.l (i := 8) (by omega)
  have hT3 := hT2.set 8 p (by omega)
  have yv : IntKind.u64.wrap (p : Int) = (p : Int) := by rw [IntKind.wrap_u64]; omega
  have h8N : (8 : Int) < (N : Int) := by omega
  replace hT1 := lh hT1
  replace hT2 := lh hT2
  replace hT3 := lh hT3
  clear hS9
  by_cases hro : s.root = i1
  ·rw [if_pos hro] at hstep
   have hro' : (s.root : Int) = (i1 : Int) := by omega
   have hSE := hT3.out
   rw [← hstep] at hSE
   replace hSE := lh hSE
   replace hstep := lh hstep
   replace hro := lh hro
   clear hHeld
   go_wp2_with fail
   go_roundw
   case rel => exact ⟨i1, by omega, by first | rfl | go_num, lh hBw2, hSE.out⟩
   first | (simp [intOf]; done) | (simp [intOf]; omega)
  rw [if_neg hro] at hstep
  have hro' : ¬ (s.root : Int) = (i1 : Int) := by omega
  have hro2 : ((s.root : Int) == (i1 : Int)) = false := beq_eq_false_iff_ne.2 hro'
  have hSE := hT2.out
  rw [← hstep] at hSE
  replace hSE := lh hSE
  replace hstep := lh hstep
  clear hHeld
  go_wp2_with fail
  go_roundw
  case rel => exact ⟨i1, by omega, by first | rfl | go_num, lh hBw2, hSE.out⟩
  first | (simp [intOf]; done) | (simp [intOf]; omega)
 ·subst hmm
  replace hPt1 := lh (fun w1 => show Calls Tryz.prog 50 #[.agg #[.int .i64 (N : Nat), .int .i64 (L : Nat)], .agg #[.int .i64 (bc : Nat), .int .i64 (bj : Nat), .int .i64 16]] w1 (fun e w' => e = .returned (.int .i64 (p : Nat)) ∧ Below w1.heap.size w1 w') from hPt1 w1)
  replace k2 : wr.cell? ⟨g5, o5 + i * 3 + 2, none⟩ = some (.int .i64 16) := k2
  have e4 := bZ wr (.cells #[.int .i64 (bc : Nat), .int .i64 (bj : Nat), .int .i64 16] 93)
  have gK := HB.new wr #[.int .i64 (bc : Nat), .int .i64 (bj : Nat), .int .i64 16] 93
  obtain ⟨w4, hw4⟩ : ∃ x, wr.alloc (.cells #[.int .i64 (bc : Nat), .int .i64 (bj : Nat), .int .i64 16] 93) = x := ⟨_, rfl⟩
  rw [hw4] at e4 gK
  obtain ⟨Kb, hKb⟩ : ∃ K, wr.heap.size = K := ⟨_, rfl⟩
  rw [hKb] at gK
  have hS4 := hS.keep e4
  have gs4 := (row_cell hS4.s 4).1
  have t0 := (row_cell gK 0).1
  have t1 := (row_cell gK 1).1
  have t2 := (row_cell gK 2).1
  have hBl4 := hS4.below
  have hOe4 := hOe1.out w4 hBl4
  clear e4 hS hOe1 hOe
  obtain ⟨q, hq⟩ : ∃ q, r % 8 = q := ⟨_, rfl⟩
  have x1 : (r : Int) % 8 = (q : Int) := by omega
  obtain ⟨sz, hszE⟩ : ∃ z, szS s i 16 = z := ⟨_, rfl⟩
  rw [if_neg (by decide), if_neg (by decide), if_pos rfl] at hsz
  have x2 : (14 : Int) - (q : Int) = (sz : Int) := by omega
  rw [hszE] at hstep
  have x3 : IntKind.i64.wrap (sz : Int) = (sz : Int) := wrapQ_so _ (by omega) (by omega)
  have hsz4 : sz ≤ 4096 := by omega
  clear hsz hq hszE
  go_wp2_with fail
  refine hOe4.mono ?_
  rintro e w5 ⟨rfl, hb5⟩
  have hS5 := hS4.keep hb5
  have gK5 := gK.keep hb5
  obtain ⟨g0, g1⟩ := hS5.g.c2
  clear t0 t1 t2 gs4 gK hS4 hBl4 hOe4 hb5
  have t0 := (row_cell gK5 0).1
  have t1 := (row_cell gK5 1).1
  have t2 := (row_cell gK5 2).1
  go_wp2_with fail
  refine (hPt1.out _).mono ?_
  rintro e w6 ⟨rfl, hb6⟩
  have hS6 := hS5.keep hb6
  have hBl6 := hS6.below
  have gs6 := (row_cell hS6.s 6).1
  clear t0 t1 t2 g0 g1 gK5 hS5 hb6 hPt1 x1 x2 x3
  obtain ⟨ty, hty⟩ : ∃ t, 1 + ry = t := ⟨_, rfl⟩
  have y3 : (1 : Int) + (ry : Int) = (ty : Int) := by omega
  have y4 : IntKind.i64.wrap (ty : Int) = (ty : Int) := wrapQ_so _ (by omega) (by omega)
  obtain ⟨E, hE⟩ : ∃ e, 4294967296 * s.ep = e := ⟨_, rfl⟩
  have y5 : (4294967296 : Int) * (s.ep : Int) = (E : Int) := by omega
  have y6 : IntKind.u64.wrap (E : Int) = (E : Int) := by rw [IntKind.wrap_u64]; omega
  obtain ⟨i1, hi1⟩ : ∃ e, i + 1 = e := ⟨_, rfl⟩
  have y7 : (i : Int) + 1 = (i1 : Int) := by omega
  have y8 : IntKind.i64.wrap (i1 : Int) = (i1 : Int) := wrapQ_so _ (by omega) (by omega)
  have y9 : IntKind.u64.wrap (i1 : Int) = (i1 : Int) := by rw [IntKind.wrap_u64]; omega
  obtain ⟨sn, hsn⟩ : ∃ e, E + i1 = e := ⟨_, rfl⟩
  have ya : (E : Int) + (i1 : Int) = (sn : Int) := by omega
  have yb : IntKind.u64.wrap (sn : Int) = (sn : Int) := by rw [IntKind.wrap_u64]; omega
  have ye : IntKind.u64.wrap (s.ep : Int) = (s.ep : Int) := by rw [IntKind.wrap_u64]; omega
  rw [hty, hE, hi1, hsn] at hstep
  rw [hi1] at hBw2
  have hEn := lh (fun w1 => encY ty sz sn w1 (hd_t.2 (by omega)))
  have hCF := lh (fun w' (hb : Below w6.heap.size w6 w') => show w'.cell? ⟨w.heap.size, 3, none⟩ = some (.slice AY nY cY) ∧ w'.cell? ⟨w.heap.size, 5, none⟩ = some (.int .u32 (s.ep : Nat)) from ⟨(row_cell (hS6.s.keep hb) 3).1, (row_cell (hS6.s.keep hb) 5).1⟩)
  have hOy6 := lh (fun w1 (hb : Below w6.heap.size w6 w1) => hOy1.out w1 (hBl6.trans (hb.mono hBl6.size)))
  have hBlt := hS6.base
  clear gs6 hOy1
  go_wp2_with fail
  refine wp_region_held_drew (S := (fun w' => Below w6.heap.size w6 w')) (by kernel_rfl) (Below.refl _ _).drew (fun hHeld => ?_)
  refine takeH 0 ?_
  refine takeH 1 ?_
  refine takeH 2 ?_
  refine takeH 5 ?_
  refine takeH 6 ?_
  refine takeH 7 ?_
  refine takeH 8 ?_
  refine takeH 9 ?_
  refine takeH 10 ?_
  refine takeH 11 ?_
  refine takeH 12 ?_
  refine takeH 13 ?_
  refine oneL 3 rfl (by kernel_rfl) (fun K hK => ?_)
  go_simp
  refine (hOy6.out _ hHeld).mono ?_; rintro e w8 ⟨rfl, hb⟩
  refine hK.out _ _ (hHeld.trans (hb.mono hHeld.size)) (fun hHeld2 => ?_)
  clear hK K hHeld
  have hHeld := hHeld2
  clear hHeld2
  try simp only [Act.put,sA,sB,sC]
  refine takeH 4 ?_
  refine takeH 14 ?_
  refine oneL 15 rfl (by kernel_rfl) (fun K hK => ?_)
  go_simp
  refine (hEn.out _).mono ?_; rintro e w9 ⟨bq, rfl, hbq, hC2, hb⟩
  have hbq2 : w6.heap.size ≤ bq := Nat.le_trans hHeld.size hbq
  refine hK.out _ _ (hHeld.trans (hb.mono hHeld.size)) (fun hHeld2 => ?_)
  clear hK K hHeld
  have hHeld := hHeld2
  clear hHeld2
  try simp only [Act.put,sA,sB,sC]
  refine takeH 16 ?_
  refine takeH 17 ?_
  refine takeH 18 ?_
  refine takeH 19 ?_
  refine takeH 20 ?_
  refine wpAnyH_done (by kernel_rfl) ?_ _
  have hS9 := hS6.keep hHeld
  clear hCF hOy6 hEn hS6 hBl6 y3 y4 y5 y6 y9 ya yb ye
  obtain ⟨d0, d1⟩ := hC2
  have hne : ¬ bq = B := by have := hBlt.2; have := hHeld.size; omega
  have hne2 : ¬ B = bq := fun e => hne e.symm
  obtain ⟨a0, b0⟩ := hS9.o.cell hS9.l (i := p) (by omega)
  obtain ⟨p1, hp1⟩ : ∃ q, p + 1 = q := ⟨_, rfl⟩
  have yp : (p : Int) + 1 = (p1 : Int) := by omega
  have yq : IntKind.i64.wrap (p1 : Int) = (p1 : Int) := wrapQ_so _ (by omega) (by omega)
  have hpN : (p : Int) < (N : Int) := by omega
  have hp1N : (p1 : Int) < (N : Int) := by omega
  rw [hp1] at hstep
  have hT1 := hS9.set p (hdW ty sz) (by omega)
  obtain ⟨a1, b1⟩ := hT1.o.cell hT1.l (i := p1) (by omega)
  have d1' : (w9.setCell ⟨B, p, none⟩ (.int .u64 (hdW ty sz : Nat))).cell? ⟨bq, 1, none⟩ = some (.int .u64 (sn : Nat)) := by rw [World.cell?_setCell_far _ _ _ _ hne2]; exact d1
  have hT2 := hT1.set p1 sn (by omega)
  have gs9 := (row_cell hT2.s 6).1
  have yr : IntKind.i64.wrap (s.root : Int) = (s.root : Int) := wrapQ_so _ (by omega) (by omega)
  obtain ⟨a2, b2⟩ := hT2.o.cell hT2.l (i := 8) (by omega)
  have hT3 := hT2.set 8 p (by omega)
  have yv : IntKind.u64.wrap (p : Int) = (p : Int) := by rw [IntKind.wrap_u64]; omega
  have h8N : (8 : Int) < (N : Int) := by omega
  replace hT1 := lh hT1
  replace hT2 := lh hT2
  replace hT3 := lh hT3
  clear hS9
  by_cases hro : s.root = i1
  ·rw [if_pos hro] at hstep
   have hro' : (s.root : Int) = (i1 : Int) := by omega
   have hSE := hT3.out
   rw [← hstep] at hSE
   replace hSE := lh hSE
   replace hstep := lh hstep
   replace hro := lh hro
   clear hHeld
   go_wp2_with fail
   go_roundw
   case rel => exact ⟨i1, by omega, by first | rfl | go_num, lh hBw2, hSE.out⟩
   first | (simp [intOf]; done) | (simp [intOf]; omega)
  rw [if_neg hro] at hstep
  have hro' : ¬ (s.root : Int) = (i1 : Int) := by omega
  have hro2 : ((s.root : Int) == (i1 : Int)) = false := beq_eq_false_iff_ne.2 hro'
  have hSE := hT2.out
  rw [← hstep] at hSE
  replace hSE := lh hSE
  replace hstep := lh hstep
  clear hHeld
  go_wp2_with fail
  go_roundw
  case rel => exact ⟨i1, by omega, by first | rfl | go_num, lh hBw2, hSE.out⟩
  first | (simp [intOf]; done) | (simp [intOf]; omega)
 replace hPt1 := lh (fun w1 => show Calls Tryz.prog 50 #[.agg #[.int .i64 (N : Nat), .int .i64 (L : Nat)], .agg #[.int .i64 (bc : Nat), .int .i64 (bj : Nat), .int .i64 (bm : Nat)]] w1 (fun e w' => e = .returned (.int .i64 (p : Nat)) ∧ Below w1.heap.size w1 w') from hPt1 w1)
 replace k2 : wr.cell? ⟨g5, o5 + i * 3 + 2, none⟩ = some (.int .i64 (bm : Nat)) := k2
 have e4 := bZ wr (.cells #[.int .i64 (bc : Nat), .int .i64 (bj : Nat), .int .i64 (bm : Nat)] 93)
 have gK := HB.new wr #[.int .i64 (bc : Nat), .int .i64 (bj : Nat), .int .i64 (bm : Nat)] 93
 obtain ⟨w4, hw4⟩ : ∃ x, wr.alloc (.cells #[.int .i64 (bc : Nat), .int .i64 (bj : Nat), .int .i64 (bm : Nat)] 93) = x := ⟨_, rfl⟩
 rw [hw4] at e4 gK
 obtain ⟨Kb, hKb⟩ : ∃ K, wr.heap.size = K := ⟨_, rfl⟩
 rw [hKb] at gK
 have hS4 := hS.keep e4
 have gs4 := (row_cell hS4.s 4).1
 have t0 := (row_cell gK 0).1
 have t1 := (row_cell gK 1).1
 have t2 := (row_cell gK 2).1
 have hBl4 := hS4.below
 have hOe4 := hOe1.out w4 hBl4
 clear e4 hS hOe1 hOe
 have m4 : ¬ (bm : Int) = 4 := by omega
 have m8 : ¬ (bm : Int) = 8 := by omega
 have m16 : ¬ (bm : Int) = 16 := by omega
 have m32 : (32 : Int) ≤ (bm : Int) := by omega
 have b4 : ((bm : Int) == 4) = false := beq_eq_false_iff_ne.2 m4
 have b8 : ((bm : Int) == 8) = false := beq_eq_false_iff_ne.2 m8
 have b16 : ((bm : Int) == 16) = false := beq_eq_false_iff_ne.2 m16
 obtain ⟨bm2, hbm2⟩ : ∃ x, bm - 2 = x := ⟨_, rfl⟩
 have y1 : (bm : Int) - 2 = (bm2 : Int) := by omega
 have y2 : IntKind.i64.wrap (bm2 : Int) = (bm2 : Int) := wrapQ_so _ (by omega) (by omega)
 obtain ⟨q, hq⟩ : ∃ q, r % 16 = q := ⟨_, rfl⟩
 have x1 : (r : Int) % 16 = (q : Int) := by omega
 obtain ⟨sz, hszE⟩ : ∃ z, szS s i bm = z := ⟨_, rfl⟩
 rw [if_neg (by omega), if_neg (by omega), if_neg (by omega)] at hsz
 have x2 : (bm2 : Int) - (q : Int) = (sz : Int) := by omega
 rw [hszE] at hstep
 have x3 : IntKind.i64.wrap (sz : Int) = (sz : Int) := wrapQ_so _ (by omega) (by omega)
 have hsz4 : sz ≤ 4096 := by omega
 clear hsz hq hszE
 go_wp2_with fail
 refine hOe4.mono ?_
 rintro e w5 ⟨rfl, hb5⟩
 have hS5 := hS4.keep hb5
 have gK5 := gK.keep hb5
 obtain ⟨g0, g1⟩ := hS5.g.c2
 clear t0 t1 t2 gs4 gK hS4 hBl4 hOe4 hb5
 have t0 := (row_cell gK5 0).1
 have t1 := (row_cell gK5 1).1
 have t2 := (row_cell gK5 2).1
 go_wp2_with fail
 refine (hPt1.out _).mono ?_
 rintro e w6 ⟨rfl, hb6⟩
 have hS6 := hS5.keep hb6
 have hBl6 := hS6.below
 have gs6 := (row_cell hS6.s 6).1
 clear t0 t1 t2 g0 g1 gK5 hS5 hb6 hPt1 x1 x2 x3
 obtain ⟨ty, hty⟩ : ∃ t, 1 + ry = t := ⟨_, rfl⟩
 have y3 : (1 : Int) + (ry : Int) = (ty : Int) := by omega
 have y4 : IntKind.i64.wrap (ty : Int) = (ty : Int) := wrapQ_so _ (by omega) (by omega)
 obtain ⟨E, hE⟩ : ∃ e, 4294967296 * s.ep = e := ⟨_, rfl⟩
 have y5 : (4294967296 : Int) * (s.ep : Int) = (E : Int) := by omega
 have y6 : IntKind.u64.wrap (E : Int) = (E : Int) := by rw [IntKind.wrap_u64]; omega
 obtain ⟨i1, hi1⟩ : ∃ e, i + 1 = e := ⟨_, rfl⟩
 have y7 : (i : Int) + 1 = (i1 : Int) := by omega
 have y8 : IntKind.i64.wrap (i1 : Int) = (i1 : Int) := wrapQ_so _ (by omega) (by omega)
 have y9 : IntKind.u64.wrap (i1 : Int) = (i1 : Int) := by rw [IntKind.wrap_u64]; omega
 obtain ⟨sn, hsn⟩ : ∃ e, E + i1 = e := ⟨_, rfl⟩
 have ya : (E : Int) + (i1 : Int) = (sn : Int) := by omega
 have yb : IntKind.u64.wrap (sn : Int) = (sn : Int) := by rw [IntKind.wrap_u64]; omega
 have ye : IntKind.u64.wrap (s.ep : Int) = (s.ep : Int) := by rw [IntKind.wrap_u64]; omega
 rw [hty, hE, hi1, hsn] at hstep
 rw [hi1] at hBw2
 have hEn := lh (fun w1 => encY ty sz sn w1 (hd_t.2 (by omega)))
 have hCF := lh (fun w' (hb : Below w6.heap.size w6 w') => show w'.cell? ⟨w.heap.size, 3, none⟩ = some (.slice AY nY cY) ∧ w'.cell? ⟨w.heap.size, 5, none⟩ = some (.int .u32 (s.ep : Nat)) from ⟨(row_cell (hS6.s.keep hb) 3).1, (row_cell (hS6.s.keep hb) 5).1⟩)
 have hOy6 := lh (fun w1 (hb : Below w6.heap.size w6 w1) => hOy1.out w1 (hBl6.trans (hb.mono hBl6.size)))
 have hBlt := hS6.base
 clear gs6 hOy1
 go_wp2_with fail
 refine wp_region_held_drew (S := (fun w' => Below w6.heap.size w6 w')) (by kernel_rfl) (Below.refl _ _).drew (fun hHeld => ?_)
 refine takeH 0 ?_
 refine takeH 1 ?_
 refine takeH 2 ?_
 refine takeH 5 ?_
 refine takeH 6 ?_
 refine takeH 7 ?_
 refine takeH 8 ?_
 refine takeH 9 ?_
 refine takeH 10 ?_
 refine takeH 11 ?_
 refine takeH 12 ?_
 refine takeH 13 ?_
 refine oneL 3 rfl (by kernel_rfl) (fun K hK => ?_)
 go_simp
 refine (hOy6.out _ hHeld).mono ?_; rintro e w8 ⟨rfl, hb⟩
 refine hK.out _ _ (hHeld.trans (hb.mono hHeld.size)) (fun hHeld2 => ?_)
 clear hK K hHeld
 have hHeld := hHeld2
 clear hHeld2
 try simp only [Act.put,sA,sB,sC]
 refine takeH 4 ?_
 refine takeH 14 ?_
 refine oneL 15 rfl (by kernel_rfl) (fun K hK => ?_)
 go_simp
 refine (hEn.out _).mono ?_; rintro e w9 ⟨bq, rfl, hbq, hC2, hb⟩
 have hbq2 : w6.heap.size ≤ bq := Nat.le_trans hHeld.size hbq
 refine hK.out _ _ (hHeld.trans (hb.mono hHeld.size)) (fun hHeld2 => ?_)
 clear hK K hHeld
 have hHeld := hHeld2
 clear hHeld2
 try simp only [Act.put,sA,sB,sC]
 refine takeH 16 ?_
 refine takeH 17 ?_
 refine takeH 18 ?_
 refine takeH 19 ?_
 refine takeH 20 ?_
 refine wpAnyH_done (by kernel_rfl) ?_ _
 have hS9 := hS6.keep hHeld
 clear hCF hOy6 hEn hS6 hBl6 y3 y4 y5 y6 y9 ya yb ye
 obtain ⟨d0, d1⟩ := hC2
 have hne : ¬ bq = B := by have := hBlt.2; have := hHeld.size; omega
 have hne2 : ¬ B = bq := fun e => hne e.symm
 obtain ⟨a0, b0⟩ := hS9.o.cell hS9.l (i := p) (by omega)
 obtain ⟨p1, hp1⟩ : ∃ q, p + 1 = q := ⟨_, rfl⟩
 have yp : (p : Int) + 1 = (p1 : Int) := by omega
 have yq : IntKind.i64.wrap (p1 : Int) = (p1 : Int) := wrapQ_so _ (by omega) (by omega)
 have hpN : (p : Int) < (N : Int) := by omega
 have hp1N : (p1 : Int) < (N : Int) := by omega
 rw [hp1] at hstep
 have hT1 := hS9.set p (hdW ty sz) (by omega)
 obtain ⟨a1, b1⟩ := hT1.o.cell hT1.l (i := p1) (by omega)
 have d1' : (w9.setCell ⟨B, p, none⟩ (.int .u64 (hdW ty sz : Nat))).cell? ⟨bq, 1, none⟩ = some (.int .u64 (sn : Nat)) := by rw [World.cell?_setCell_far _ _ _ _ hne2]; exact d1
 have hT2 := hT1.set p1 sn (by omega)
 have gs9 := (row_cell hT2.s 6).1
 have yr : IntKind.i64.wrap (s.root : Int) = (s.root : Int) := wrapQ_so _ (by omega) (by omega)
 obtain ⟨a2, b2⟩ := hT2.o.cell hT2.l (i := 8) (by omega)
 have hT3 := hT2.set 8 p (by omega)
 have yv : IntKind.u64.wrap (p : Int) = (p : Int) := by rw [IntKind.wrap_u64]; omega
 have h8N : (8 : Int) < (N : Int) := by omega
 replace hT1 := lh hT1
 replace hT2 := lh hT2
 replace hT3 := lh hT3
 clear hS9
 by_cases hro : s.root = i1
 ·rw [if_pos hro] at hstep
  have hro' : (s.root : Int) = (i1 : Int) := by omega
  have hSE := hT3.out
  rw [← hstep] at hSE
  replace hSE := lh hSE
  replace hstep := lh hstep
  replace hro := lh hro
  clear hHeld
  go_wp2_with fail
  go_roundw
  case rel => exact ⟨i1, by omega, by first | rfl | go_num, lh hBw2, hSE.out⟩
  first | (simp [intOf]; done) | (simp [intOf]; omega)
 rw [if_neg hro] at hstep
 have hro' : ¬ (s.root : Int) = (i1 : Int) := by omega
 have hro2 : ((s.root : Int) == (i1 : Int)) = false := beq_eq_false_iff_ne.2 hro'
 have hSE := hT2.out
 rw [← hstep] at hSE
 replace hSE := lh hSE
 replace hstep := lh hstep
 clear hHeld
 go_wp2_with fail
 go_roundw
 case rel => exact ⟨i1, by omega, by first | rfl | go_num, lh hBw2, hSE.out⟩
 first | (simp [intOf]; done) | (simp [intOf]; omega)
end Go.Proofs.YtkkbngcgphlikaaGreatDoor
