/-
  Part of the proof of SoundPlaces.
-/
import Derived.Test.YtdmmbnnejbmdpaaGreatDoorVs24
import Derived.Test.YtdmmbnnejbmdpaaGreatDoorVs25
import Derived.Test.YtdmmbnnejbmdpaaGreatDoorVs44
import Derived.Test.YtdmmbnnejbmdpaaGreatDoorVs50
import Derived.Test.YtdmmbnnejbmdpaaGreatDoorVs0
set_option maxRecDepth 10000
set_option maxHeartbeats 16000000
set_option linter.unusedVariables false
set_option linter.unusedSimpArgs false
section
namespace Go.Proofs.YtdmmbnnejbmdpaaGreatDoor
open Go.Lib Go.RowKit Go.ChangeShapes Go.WideShapes Go.Deep Go.Shelf
def eH (x : Nat) : List Value := [.int .u16 (x : Nat)]
theorem eH_len (x : Nat) : (eH x).length = 1 := rfl
theorem infoH : (Tryz.prog.info? 32).map (fun i => (i.zero, i.size, i.bytes)) = some (some (.int .u16 0), 1, 2) := by kernel_rfl
theorem hT16 : ElT Tryz.prog 22 32 1 2 eH :=
 ⟨Tryz.underlying22, by obtain ⟨i0, h1, h2, h3, h4⟩ := info_parts infoH; exact ⟨i0, _, h1, h2, h3, h4, rfl⟩, eH_len, fun x u hu => by simp only [eH, List.mem_cons, List.not_mem_nil, or_false] at hu; subst hu; rfl, by decide, by decide⟩
theorem hRun {v : Value} {w : World} {base : Nat} {l : List Nat} (h : OwnE 32 1 eH w base v l) (hb : base ≤ w.heap.size) (hlen : l.length ≤ 1000000) (x : Nat) :
 ∃ v' w', (Builtin.append_ #[22, 22] 22 #[v, .slice (some ⟨w.heap.size, 0, none⟩) 1 1]).run Tryz.prog (w.alloc (.cells #[.int .u16 (x : Nat)] (32 : Nat))) = .ok v' w' ∧ OwnE 32 1 eH w' base v' (l ++ [x]) ∧ Below base w w' := by
 have hlit : EL 1 eH (w.alloc (.cells #[.int .u16 (x : Nat)] (32 : Nat))) (.slice (some ⟨w.heap.size, 0, none⟩) 1 1) [x] := (OwnE.lit 32 eH_len w [x] _ rfl (by simp)).el eH_len
 obtain ⟨v', w1, hrun, ho, hg, hl2, hnn⟩ := appE hT16 (h.alloc _) hlit (by simp; omega) (by omega) (by simp)
 exact ⟨v', w1, hrun, ho, ((bZ w _).mono hb).trans (grown_below hg (by simp; omega) (fun k q => (h.lt k q).1))⟩
theorem h_kl {w : World} {v : Value} {l : List Nat} (h : EL 1 eH w v l) : KL .u16 w v l := by
 obtain ⟨A, cap, hv, h⟩ := h
 refine ⟨A, cap, hv, fun hl => ?_⟩
 obtain ⟨g, off, hA, hg, hc, hcell⟩ := h hl
 refine ⟨g, off, hA, hg, hc, fun i hi => ?_⟩
 have h0 := hcell i hi 0 (by decide)
 rw [Nat.mul_one, Nat.add_zero] at h0
 exact h0
theorem filt_snoc {l : List Nat} {k : Nat} (h : k < l.length) (P : Nat → Bool) : (l.take (k + 1)).filter P = (l.take k).filter P ++ (if P (l.getD k 0) = true then [l.getD k 0] else []) := by
 rw [List.take_succ_eq_append_getElem h, List.filter_append, List.getD_eq_getElem?_getD, List.getElem?_eq_getElem h]
 congr 1
 show List.filter P [l[k]] = (if P l[k] = true then [l[k]] else [])
 rw [List.filter_cons]
 rfl
theorem stkS_WL {s : Sk} (hB : SkB s) {N L : Nat} {X : List Nat} (hX : WL X) {i : Nat} (hi : i ≤ 100000) {b : Bl} (hb : b.2.2 ≤ 4098) (hp : plc N L b < 18446744073709551616) : WL (stkS s N L X i b) := by
 have h1 : hdW (1 + oneN s.types i) (szS s i b.2.2) < 18446744073709551616 := by
  have := oneN_lt hB.y (by decide) i
  have : szS s i b.2.2 ≤ b.2.2 := by unfold szS; omega
  unfold hdW
  omega
 have h2 : 4294967296 * s.ep + (i + 1) < 18446744073709551616 := by have := hB.ep; omega
 have h3 : WL ((X.set (plc N L b) (hdW (1 + oneN s.types i) (szS s i b.2.2))).set (plc N L b + 1) (4294967296 * s.ep + (i + 1))) := (hX.setN _ _ h1).setN _ _ h2
 unfold stkS
 split
 ·exact h3.setN _ _ hp
 ·exact h3
theorem Stocked_any (s : Sk) (vT vY vE vF : Value) (w : World) (hw : Lw w) (hM : SkM w vT vY vE vF s) (hB : SkB s) (hfw : fewS s = true) :
 Calls Tryz.prog 12 #[skV s vT vY vE vF] w fun e w' => ∃ v', e = .returned v' ∧ OwnU w' w.heap.size v' (stockL s) ∧ Hid (WL (stockL s)) ∧ Below w.heap.size w w' := by
 obtain ⟨AT, cT, AY, cY, AE, cE, AF, cF, rfl, rfl, rfl, rfl⟩ := hM.sl
 have hfw2 := hfw
 unfold fewS at hfw2
 simp only [Bool.and_eq_true, decide_eq_true_eq] at hfw2
 obtain ⟨f1, f2, f3, f4⟩ := hfw2
 have hgf := gvS_few hfw
 have hgB := gvS_B hB
 obtain ⟨hg, hgN, hgat, hL1, hL3, hG1, hG8⟩ := gv_geo (gvS s)
 have hgl := gv_len (gvS s)
 have hNN : gvN (gvS s) = 10 + 73 * gvL (gvS s) + 33 * gvG (gvS s) := rfl
 have hbk := lh (fun b (h : b ∈ blI (makeL (gvS s)) (gvL (gvS s))) => stock_blk h)
 have hpb := lh (fun b (h : b ∈ blI (makeL (gvS s)) (gvL (gvS s))) => plc_bd (by rw [hgl.1]; exact hg) h)
 have hstl : stockL s = stkN s (gvN (gvS s)) (gvL (gvS s)) (blI (makeL (gvS s)) (gvL (gvS s))) (makeL (gvS s)) (blI (makeL (gvS s)) (gvL (gvS s))).length := rfl
 have hblen := bl_len (I := makeL (gvS s)) (L := gvL (gvS s)) (by rw [hgl.1]; exact hg)
 rw [hgl.1, hgat] at hblen
 have hGe := lh (fun A3 n3 c3 w1 => geom_any (gvS s) A3 AF none none n3 c3 s.fill.length cF 0 0 0 0 w1 hgB)
 have hMk := lh (fun A3 n3 c3 w1 (hb : Below w.heap.size w w1) (hn3 : n3 = (gvS s).tiles.length) (hk : KL .u16 w1 (.slice A3 n3 c3) (gvS s).tiles) => make_any (gvS s) (.slice A3 n3 c3) (.slice AF s.fill.length cF) (.slice none 0 0) (.slice none 0 0) [] w1 (hw.keep hb)
  ⟨hk, (hM.keep hb).f, EL.nil _ _ _ _ _, fun x hx => (by cases hx), fun x hx => (by cases hx), rfl, EL.nil _ _ _ _ _⟩ hgB hgf)
 have hPt := lh (fun (b : Bl) (hb : b ∈ blI (makeL (gvS s)) (gvL (gvS s))) w1 => by
  have h := hpb.out b hb
  rw [hgl.1] at h
  exact refPlace_any (gvN (gvS s)) (gvL (gvS s)) b.1 b.2.1 b.2.2 w1 hg h.1 (by omega) (by omega) (by omega))
 have hTb := lh (fun w1 => refTable_t (gvN (gvS s) : Nat) (gvL (gvS s) : Nat) w1 hg)
 rw [hgN] at hTb
 have hOe := lh (fun i w1 (hb : Below w.heap.size w w1) (hi : i ≤ 100000) => one16 (.slice AE s.less.length cE) s.less i w1 (hM.keep hb).e (by omega) hi hB.e)
 have hOy := lh (fun i w1 (hb : Below w.heap.size w w1) (hi : i ≤ 100000) => one16 (.slice AY s.types.length cY) s.types i w1 (hM.keep hb).y (by omega) hi hB.y)
 have hyb := lh (fun i => oneN_lt hB.y (by decide) i)
 have heb := lh (fun i => oneN_lt hB.e (by decide) i)
 have hBw := lh (fun (X : List Nat) (hX : WL X) (i : Nat) (hi : i ≤ 100000) (b : Bl) (hb : b.2.2 ≤ 4098) (hp : plc (gvN (gvS s)) (gvL (gvS s)) b < 18446744073709551616) => stkS_WL hB hX hi hb hp)
 obtain ⟨A0, c0, hv0, hFt⟩ := hM.t.form rfl
 cases hv0
 replace hFt := lh hFt
 have htb := lh hB.t
 have hep := hB.ep
 have hrt := hB.r
 have hwk := lh (fun w1 (hb : Below w.heap.size w w1) => hw.keep hb)
 have hgt : (gvS s).tiles = s.tiles.filter (fun x => !decide (x % 6 = 5)) := rfl
 have hga : (gvS s).a = s.a := rfl
 have hgb : (gvS s).b = s.b := rfl
 have hgr : (gvS s).root = 0 := rfl
 have hge : (gvS s).epoch = s.ep := rfl
 have hBd : s.a < 256 ∧ s.b < 256 := ⟨hB.a, hB.b⟩
 unfold gvV at hGe hMk
 rw [hga, hgb, hgr, hge] at hGe hMk
 rw [hgt] at hMk
 rw [hstl]
 obtain ⟨I, hI⟩ : ∃ I, makeL (gvS s) = I := ⟨_, rfl⟩
 obtain ⟨N, hN⟩ : ∃ N, gvN (gvS s) = N := ⟨_, rfl⟩
 obtain ⟨L, hL⟩ : ∃ L, gvL (gvS s) = L := ⟨_, rfl⟩
 obtain ⟨G, hG⟩ : ∃ G, gvG (gvS s) = G := ⟨_, rfl⟩
 rw [hI, hN] at hgl
 rw [hI, hL] at hbk hpb hPt hblen ⊢
 rw [hN, hL] at hGe hTb
 rw [hN] at hPt hBw ⊢
 rw [hL] at hBw
 rw [hI] at hMk
 rw [hN, hL] at hg hgat
 rw [hN, hL, hG] at hNN
 rw [hG] at hblen hTb hgat hG1 hG8
 have hN1 : 10 + 73 * L + 33 * G ≤ N := by omega
 have hN2 : N ≤ 10 + 73 * L + 33 * G := by omega
 clear hNN
 rw [hL] at hL1 hL3
 obtain ⟨R, hR⟩ : ∃ R, blI I L = R := ⟨_, rfl⟩
 rw [hR] at hbk hpb hPt hblen ⊢
 obtain ⟨nR, hnR⟩ : ∃ n, R.length = n := ⟨_, rfl⟩
 rw [hnR] at hblen ⊢
 obtain ⟨nT, hnT⟩ : ∃ n, s.tiles.length = n := ⟨_, rfl⟩
 obtain ⟨nY, hnY⟩ : ∃ n, s.types.length = n := ⟨_, rfl⟩
 obtain ⟨nE, hnE⟩ : ∃ n, s.less.length = n := ⟨_, rfl⟩
 obtain ⟨nF, hnF⟩ : ∃ n, s.fill.length = n := ⟨_, rfl⟩
 rw [hnT] at f1 hFt
 rw [hnY] at f2 hOy
 rw [hnE] at f3 hOe
 rw [hnF] at f4 hGe hMk
 rw [hnT, hnY, hnE, hnF]
 unfold skV
 clear hM hB hfw hgf hgB hw hgt hga hgb hgr hge hstl hN hG
 have hb0 := bZ w (.cells #[.int .u8 (s.a : Nat), .int .u8 (s.b : Nat), .slice AT nT cT, .slice AY nY cY, .slice AE nE cE, .int .u32 (s.ep : Nat), .int .u8 (s.root : Nat), .slice AF nF cF] 27)
 have gS := HB.new w #[.int .u8 (s.a : Nat), .int .u8 (s.b : Nat), .slice AT nT cT, .slice AY nY cY, .slice AE nE cE, .int .u32 (s.ep : Nat), .int .u8 (s.root : Nat), .slice AF nF cF] 27
 obtain ⟨wb1, hwb1⟩ : ∃ x, w.alloc (.cells #[.int .u8 (s.a : Nat), .int .u8 (s.b : Nat), .slice AT nT cT, .slice AY nY cY, .slice AE nE cE, .int .u32 (s.ep : Nat), .int .u8 (s.root : Nat), .slice AF nF cF] 27) = x := ⟨_, rfl⟩
 have hswb1 : wb1.heap.size = w.heap.size + 1 := by rw [← hwb1]; simp
 rw [hwb1] at hb0 gS
 have hB : Below w.heap.size w wb1 := hb0
 clear hb0
 go_enter Tryz.func12, Tryz.ntmps12
 have p2 := (row_cell gS 2).1
 subst hwb1
 go_wp2_with fail
 obtain ⟨wb1, hwb1⟩ : ∃ x, w.alloc (.cells #[.int .u8 (s.a : Nat), .int .u8 (s.b : Nat), .slice AT nT cT, .slice AY nY cY, .slice AE nE cE, .int .u32 (s.ep : Nat), .int .u8 (s.root : Nat), .slice AF nF cF] 27) = x := ⟨_, rfl⟩
 rw [hwb1] at hB gS
 clear p2
 go_loopw [4, 3] (fun i u wr => ∃ (j : Nat), j ≤ nT ∧ i = .int .i64 (j : Nat) ∧ OwnE 32 1 eH wr (w.heap.size + 1) u ((s.tiles.take j).filter (fun x => !decide (x % 6 = 5))) ∧ HB wr w.heap.size #[.int .u8 (s.a : Nat), .int .u8 (s.b : Nat), .slice AT nT cT, .slice AY nY cY, .slice AE nE cE, .int .u32 (s.ep : Nat), .int .u8 (s.root : Nat), .slice AF nF cF] 27 ∧ Below w.heap.size w wr) (fun i _ _ => nT + 1 - (intOf i).toNat)
 case atStart => exact ⟨0, Nat.zero_le _, rfl, World.ownsRow_nil _ _ _ _, by first | exact gS | (rw [← hwb1] at gS; exact gS), by first | exact hB | (rw [← hwb1] at hB; exact hB)⟩
 case round =>
  clear gS hB hwb1 hswb1
  obtain ⟨j, hj, rfl, ho, gS, hBr⟩ := hrel
  have p2 := (row_cell gS 2).1
  by_cases hlt : j < nT
  ·have hlt' : (j : Int) < (nT : Int) := by omega
   obtain ⟨gt, ot, rfl, hct, hgt, k0⟩ := hFt.out wr j hBr hlt
   have hsn := filt_snoc (l := s.tiles) (k := j) (by rw [hnT]; exact hlt) (fun x => !decide (x % 6 = 5))
   have hxb : s.tiles.getD j 0 < 65536 := by
    rw [List.getD_eq_getElem?_getD, List.getElem?_eq_getElem (by rw [hnT]; exact hlt)]
    exact htb.out _ (List.getElem_mem _)
   generalize s.tiles.getD j 0 = x at *
   obtain ⟨q, hq⟩ : ∃ q, x % 6 = q := ⟨_, rfl⟩
   have r1 : (x : Int) % 6 = (q : Int) := by omega
   by_cases hq5 : q = 5
   ·subst hq5
    have hs2 : (s.tiles.take (j + 1)).filter (fun x => !decide (x % 6 = 5)) = (s.tiles.take j).filter (fun x => !decide (x % 6 = 5)) := by
     rw [hsn, if_neg (by rw [decide_eq_true hq]; decide), List.append_nil]
    replace hs2 := lh hs2
    clear hsn hq
    go_wp2_with fail
    go_roundw
    case rel => exact ⟨j + 1, by omega, by go_num, by rw [hs2.out]; exact ho, gS, hBr⟩
    case measure => first | (simp [intOf]; done) | (simp [intOf]; omega)
   ·have hq5' : ¬ (q : Int) = 5 := by omega
    have hs2 : (s.tiles.take (j + 1)).filter (fun x => !decide (x % 6 = 5)) = (s.tiles.take j).filter (fun x => !decide (x % 6 = 5)) ++ [x] := by
     rw [hsn, if_pos (by rw [decide_eq_false (by omega)]; rfl)]
    have hfl := List.length_filter_le (fun x => !decide (x % 6 = 5)) (s.tiles.take j)
    rw [List.length_take] at hfl
    obtain ⟨v', w', hrun, ho', hb'⟩ := hRun ho (by have := gS.lt; omega) (by omega) x
    rw [← hs2] at ho'
    have gS' : HB w' w.heap.size _ _ := (hb'.block w.heap.size (by omega)).trans gS
    have hBr' := hBr.trans (hb'.mono (Nat.le_succ _))
    clear hsn hq hs2 hfl ho
    go_wp2_with (at_builtin; refine wpList_append_run rfl _ _ 22 rfl _ _ _ rfl rfl hrun ?_)
    go_roundw
    case rel => exact ⟨j + 1, by omega, by go_num, ho', gS', hBr'⟩
    case measure => first | (simp [intOf]; done) | (simp [intOf]; omega)
  ·obtain rfl : nT = j := by omega
   have hlt' : ¬ (nT : Int) < (nT : Int) := by omega
   have hta : s.tiles.take nT = s.tiles := List.take_of_length_le (by rw [hnT]; exact Nat.le_refl _)
   rw [hta] at ho
   obtain ⟨n3, hn3⟩ : ∃ n, (s.tiles.filter (fun x => !decide (x % 6 = 5))).length = n := ⟨_, rfl⟩
   have hk3 := h_kl (ho.el eH_len)
   obtain ⟨A3, c3, rfl, -⟩ := hk3.form hn3
   have z1 : IntKind.u64.wrap (s.ep : Int) = (s.ep : Int) := by rw [IntKind.wrap_u64]; omega
   have p0 := (row_cell gS 0).1
   have p1 := (row_cell gS 1).1
   have p5 := (row_cell gS 5).1
   have p7 := (row_cell gS 7).1
   have eG := bZ wr (.cells #[.int .u8 (s.a : Nat), .int .u8 (s.b : Nat), .slice A3 n3 c3, .slice AF nF cF, .slice none 0 0, .int .u64 ((0 : Nat) : Int), .int .u64 (s.ep : Nat), .slice none 0 0] 47)
   have gV := HB.new wr #[.int .u8 (s.a : Nat), .int .u8 (s.b : Nat), .slice A3 n3 c3, .slice AF nF cF, .slice none 0 0, .int .u64 ((0 : Nat) : Int), .int .u64 (s.ep : Nat), .slice none 0 0] 47
   have gSG := gS.keep eG
   have hBG := hBr.trans (eG.mono hBr.size)
   have hkG := hk3.keep eG
   obtain ⟨KV, hKV⟩ : ∃ K, wr.heap.size = K := ⟨_, rfl⟩
   have hKVl : w.heap.size + 1 ≤ KV := by have := gS.lt; omega
   rw [hKV] at gV
   have hMk1 := hMk.out A3 n3 c3 _ hBG hn3.symm hkG
   have v0 := row_cell gV 0
   clear ho hk3 eG hta hMk hFt
   go_wp2_with fail
   refine hMk1.mono ?_
   rintro e w6 ⟨v6, rfl, ho6, hW6, hb6⟩
   obtain ⟨A6, c6, hv6, hf6⟩ := OwnU.form ho6
   rw [hgl.1] at hv6 hf6
   cases hv6
   obtain ⟨B, rfl, hBl, hBu⟩ := hf6 (by omega)
   have hc6 : N ≤ c6 := by
    obtain ⟨A9, c9, hv9, h9⟩ := (OwnU.kl ho6).form hgl.1
    cases hv9
    obtain ⟨_, _, _, h2, _⟩ := h9 w6 0 (Below.refl _ _) (by omega)
    exact h2
   have hB6 := hBG.trans (hb6.mono hBG.size)
   have gS6 := gSG.keep hb6
   have gV6 := gV.keep hb6
   have ho6' : OwnU w6 w.heap.size _ I := ho6.mono hBG.size
   clear p0 p1 p2 p5 p7 v0 hMk1 hkG gSG gV hBG hb6 ho6 hf6 hBl hBu hBr gS
   have q0 := (row_cell gV6 0).1
   have q1 := (row_cell gV6 1).1
   have q2 := (row_cell gV6 2).1
   have q3 := (row_cell gV6 3).1
   have q4 := (row_cell gV6 4).1
   have q5 := (row_cell gV6 5).1
   have q6 := (row_cell gV6 6).1
   have q7 := (row_cell gV6 7).1
   have hGe1 := lh (fun w1 => hGe.out A3 n3 c3 w1)
   clear hGe
   go_wp2_with fail
   refine (hGe1.out _).mono ?_
   rintro e w7 ⟨rfl, hb7⟩
   have hB7 := hB6.trans (hb7.mono hB6.size)
   have gS7 := gS6.keep hb7
   have ho7 := ho6'.keep hb7
   clear q0 q1 q2 q3 q4 q5 q6 q7 hGe1 gV6 gS6 ho6' hB6 hb7
   have e8 := bZ w7 (.cells #[.int .i64 (N : Nat), .int .i64 (L : Nat)] 51)
   have gG := HB.new w7 #[.int .i64 (N : Nat), .int .i64 (L : Nat)] 51
   obtain ⟨w8, hw8⟩ : ∃ x, w7.alloc (.cells #[.int .i64 (N : Nat), .int .i64 (L : Nat)] 51) = x := ⟨_, rfl⟩
   rw [hw8] at e8 gG
   obtain ⟨Gb, hGb⟩ : ∃ K, w7.heap.size = K := ⟨_, rfl⟩
   rw [hGb] at gG
   have hB8 := hB7.trans (e8.mono hB7.size)
   have gS8 := gS7.keep e8
   have ho8 := ho7.keep e8
   obtain ⟨g0, g1⟩ := gG.c2
   obtain ⟨F, hF⟩ : ∃ F, 10 + 73 * L = F := ⟨_, rfl⟩
   have hTb8 : Calls Tryz.prog 25 #[.agg #[.int .i64 (N : Nat), .int .i64 (L : Nat)]] w8 (fun e w' => e = .returned (.agg #[.int .i64 (F : Nat), .int .i64 (G : Nat)]) ∧ Below w8.heap.size w8 w') := by
    have h := hTb.out w8
    rw [show (10 + 73 * (L : Int)) = ((F : Nat) : Int) from by omega] at h
    exact h
   clear e8 gS7 ho7 hB7 hTb
   subst hw8
   go_wp2_with fail
   refine hTb8.mono ?_
   rintro e w9 ⟨rfl, hb9⟩
   have hB9 := hB8.trans (hb9.mono hB8.size)
   have gS9 := gS8.keep hb9
   have gG9 := gG.keep hb9
   have ho9 := ho8.keep hb9
   have hPa := part15_any B 0 N c6 F G w9 (by omega) hc6 (by omega) (by omega)
   clear g0 g1 hTb8 hb9 hB8 gS8 gG ho8
   go_wp2_with fail
   refine hPa.mono ?_
   rintro e wA ⟨rfl, hbA⟩
   have hBA := hB9.trans (hbA.mono hB9.size)
   have gSA := gS9.keep hbA
   have gGA := gG9.keep hbA
   have hoA := ho9.keep hbA
   have htl : (tabW I L).length = G := by rw [tab_len (by rw [hgl.1]; exact hg), hgl.1, hgat]
   have hkA : KL .u64 wA (.slice (some ⟨B, F, none⟩) G (c6 - F)) (tabW I L) := by
    have h := KL.partC hoA.kl hgl.1 F G (c6 - F) (by omega) (by omega)
    rw [Nat.zero_add] at h
    unfold tabW; rw [hgl.1, hgat, hF]; exact h
   have htW : WL (tabW I L) := fun x hx => hW6.out x (by unfold tabW at hx; exact List.mem_of_mem_drop (List.mem_of_mem_take hx))
   have hBk := refBlocks_any _ (tabW I L) wA (hwk.out _ hBA) hkA htW (by omega)
   rw [show blksT (tabW I L) = R from hR] at hBk
   clear hPa hbA hB9 gS9 gG9 ho9 htl hkA htW
   go_wp2_with fail
   refine hBk.mono ?_
   rintro e wB ⟨vB, rfl, hoB, hbB⟩
   obtain ⟨A8, c8, rfl, -⟩ := BKO.formB hoB hnR
   have hSB : SkS w w.heap.size Gb #[.int .u8 (s.a : Nat), .int .u8 (s.b : Nat), .slice AT nT cT, .slice AY nY cY, .slice AE nE cE, .int .u32 (s.ep : Nat), .int .u8 (s.root : Nat), .slice AF nF cF] #[.int .i64 (N : Nat), .int .i64 (L : Nat)] B N c6 A8 nR c8 R I wB := ⟨hoA.keep hbB, hgl.1, gSA.keep hbB, gGA.keep hbB, hoB.mono hBA.size, hBA.trans (hbB.mono hBA.size)⟩
   clear hBk hBA gSA gGA hoA hoB hbB
   go_wp2_with fail
   go_loopw [9] (fun i wr => ∃ (j : Nat), j ≤ nR ∧ i = .int .i64 (j : Nat) ∧ Hid (WL (stkN s N L R I j)) ∧ SkS w w.heap.size Gb #[.int .u8 (s.a : Nat), .int .u8 (s.b : Nat), .slice AT nT cT, .slice AY nY cY, .slice AE nE cE, .int .u32 (s.ep : Nat), .int .u8 (s.root : Nat), .slice AF nF cF] #[.int .i64 (N : Nat), .int .i64 (L : Nat)] B N c6 A8 nR c8 R (stkN s N L R I j) wr) (fun i _ => nR + 1 - (intOf i).toNat)
   case atStart => exact ⟨0, Nat.zero_le _, rfl, hW6, hSB⟩
   case round =>
    clear hSB hW6
    obtain ⟨i, hi, rfl, hWr, hS⟩ := hrel
    by_cases hli : i < nR
    ·have hi1000 : i ≤ 1000 := by omega
     have hli' : (i : Int) < (nR : Int) := by omega
     have hmem : R.getD i default ∈ R := by rw [List.getD_eq_getElem?_getD, List.getElem?_eq_getElem (by rw [hnR]; exact hli)]; exact List.getElem_mem _
     have hm4 := hbk.out _ hmem
     have hpb1 := hpb.out _ hmem
     have hPt1 := hPt.out _ hmem
     have hBw1 := hBw.out _ hWr.out i (by omega) (R.getD i default)
     have hstep : stkN s N L R I (i + 1) = stkS s N L (stkN s N L R I i) i (R.getD i default) := rfl
     rw [hgl.1] at hpb1
     obtain ⟨A9, c9, hv9, hF9⟩ := BKO.formB hS.b hnR
     cases hv9
     obtain ⟨g5, o5, rfl, hc5, hg5, -, k0, k1, k2⟩ := hF9 wr i (Below.refl _ _) hli
     generalize R.getD i default = b at *
     obtain ⟨bc, bj, bm⟩ := b
     simp only [] at k0 k1 k2 hm4 hpb1 hPt1 hBw1
     obtain ⟨u1, u2, u3, u4, u5, u6, u7⟩ := hpb1
     have hBw2 := hBw1 (by omega) (by omega)
     rw [← hstep] at hBw2
     obtain ⟨p, hp⟩ : ∃ p, plc N L (bc, bj, bm) = p := ⟨_, rfl⟩
     rw [hp] at hPt1 u6 u7
     obtain ⟨r, hr⟩ : ∃ r, oneN s.less i = r := ⟨_, rfl⟩
     obtain ⟨ry, hry⟩ : ∃ r, oneN s.types i = r := ⟨_, rfl⟩
     have hr256 := heb.out i
     have hy256 := hyb.out i
     rw [hr] at hr256
     rw [hry] at hy256
     have hOe1 := lh (fun w1 hb => hOe.out i w1 hb (by omega))
     have hOy1 := lh (fun w1 hb => hOy.out i w1 hb (by omega))
     rw [hr] at hOe1
     rw [hry] at hOy1
     have hstk : ∀ X, stkS s N L X i (bc, bj, bm) = (if s.root = i + 1 then ((X.set p (hdW (1 + ry) (szS s i bm))).set (p + 1) (4294967296 * s.ep + (i + 1))).set 8 p else (X.set p (hdW (1 + ry) (szS s i bm))).set (p + 1) (4294967296 * s.ep + (i + 1))) := fun X => by unfold stkS; rw [hp, hry]
     have hsz : szS s i bm = bm - 2 - (if bm = 4 then r % 3 else if bm = 8 then r % 4 else if bm = 16 then r % 8 else r % 16) := by unfold szS; rw [hr]
     rw [hstk] at hstep
     obtain ⟨X, hX⟩ : ∃ X, stkN s N L R I i = X := ⟨_, rfl⟩
     rw [hX] at hS hstep
     clear hmem hBw1 hWr hX hstk hr hry hpb hF9
     rcases hm4 with hmm | hmm | hmm | ⟨hmm, hmm2⟩
     ·subst hmm
      replace hPt1 := lh (fun w1 => show Calls Tryz.prog 27 #[.agg #[.int .i64 (N : Nat), .int .i64 (L : Nat)], .agg #[.int .i64 (bc : Nat), .int .i64 (bj : Nat), .int .i64 4]] w1 (fun e w' => e = .returned (.int .i64 (p : Nat)) ∧ Below w1.heap.size w1 w') from hPt1 w1)
      replace k2 : wr.cell? ⟨g5, o5 + i * 3 + 2, none⟩ = some (.int .i64 4) := k2
      have e4 := bZ wr (.cells #[.int .i64 (bc : Nat), .int .i64 (bj : Nat), .int .i64 4] 61)
      have gK := HB.new wr #[.int .i64 (bc : Nat), .int .i64 (bj : Nat), .int .i64 4] 61
      obtain ⟨w4, hw4⟩ : ∃ x, wr.alloc (.cells #[.int .i64 (bc : Nat), .int .i64 (bj : Nat), .int .i64 4] 61) = x := ⟨_, rfl⟩
      rw [hw4] at e4 gK
      obtain ⟨Kb, hKb⟩ : ∃ K, wr.heap.size = K := ⟨_, rfl⟩
      rw [hKb] at gK
      have hS4 := hS.keep e4
      have gs4 := (row_cell hS4.s 4).1
      have t0 := (row_cell gK 0).1
      have t1 := (row_cell gK 1).1
      have t2 := (row_cell gK 2).1
      have hBl4 := hS4.below
      have hOe4 := hOe1.out w4 hBl4
      clear e4 hS hOe1 hOe
      obtain ⟨q, hq⟩ : ∃ q, r % 3 = q := ⟨_, rfl⟩
      have x1 : (r : Int) % 3 = (q : Int) := by omega
      obtain ⟨sz, hszE⟩ : ∃ z, szS s i 4 = z := ⟨_, rfl⟩
      rw [if_pos rfl] at hsz
      have x2 : (2 : Int) - (q : Int) = (sz : Int) := by omega
      rw [hszE] at hstep
      have x3 : IntKind.i64.wrap (sz : Int) = (sz : Int) := wrapQ _ (by omega) (by omega)
      have hsz4 : sz ≤ 4096 := by omega
      clear hsz hq hszE
      go_wp2_with fail
      refine hOe4.mono ?_
      rintro e w5 ⟨rfl, hb5⟩
      have hS5 := hS4.keep hb5
      have gK5 := gK.keep hb5
      obtain ⟨g0, g1⟩ := hS5.g.c2
      clear t0 t1 t2 gs4 gK hS4 hBl4 hOe4 hb5
      have t0 := (row_cell gK5 0).1
      have t1 := (row_cell gK5 1).1
      have t2 := (row_cell gK5 2).1
      go_wp2_with fail
      refine (hPt1.out _).mono ?_
      rintro e w6 ⟨rfl, hb6⟩
      have hS6 := hS5.keep hb6
      have hBl6 := hS6.below
      have gs6 := (row_cell hS6.s 6).1
      clear t0 t1 t2 g0 g1 gK5 hS5 hb6 hPt1 x1 x2 x3
      obtain ⟨ty, hty⟩ : ∃ t, 1 + ry = t := ⟨_, rfl⟩
      have y3 : (1 : Int) + (ry : Int) = (ty : Int) := by omega
      have y4 : IntKind.i64.wrap (ty : Int) = (ty : Int) := wrapQ _ (by omega) (by omega)
      obtain ⟨E, hE⟩ : ∃ e, 4294967296 * s.ep = e := ⟨_, rfl⟩
      have y5 : (4294967296 : Int) * (s.ep : Int) = (E : Int) := by omega
      have y6 : IntKind.u64.wrap (E : Int) = (E : Int) := by rw [IntKind.wrap_u64]; omega
      obtain ⟨i1, hi1⟩ : ∃ e, i + 1 = e := ⟨_, rfl⟩
      have y7 : (i : Int) + 1 = (i1 : Int) := by omega
      have y8 : IntKind.i64.wrap (i1 : Int) = (i1 : Int) := wrapQ _ (by omega) (by omega)
      have y9 : IntKind.u64.wrap (i1 : Int) = (i1 : Int) := by rw [IntKind.wrap_u64]; omega
      obtain ⟨sn, hsn⟩ : ∃ e, E + i1 = e := ⟨_, rfl⟩
      have ya : (E : Int) + (i1 : Int) = (sn : Int) := by omega
      have yb : IntKind.u64.wrap (sn : Int) = (sn : Int) := by rw [IntKind.wrap_u64]; omega
      have ye : IntKind.u64.wrap (s.ep : Int) = (s.ep : Int) := by rw [IntKind.wrap_u64]; omega
      rw [hty, hE, hi1, hsn] at hstep
      rw [hi1] at hBw2
      have hEn := lh (fun w1 => encY ty sz sn w1 (hd_t.2 (by omega)))
      have hCF := lh (fun w' (hb : Below w6.heap.size w6 w') => show w'.cell? ⟨w.heap.size, 3, none⟩ = some (.slice AY nY cY) ∧ w'.cell? ⟨w.heap.size, 5, none⟩ = some (.int .u32 (s.ep : Nat)) from ⟨(row_cell (hS6.s.keep hb) 3).1, (row_cell (hS6.s.keep hb) 5).1⟩)
      have hOy6 := lh (fun w1 (hb : Below w6.heap.size w6 w1) => hOy1.out w1 (hBl6.trans (hb.mono hBl6.size)))
      have hBlt := hS6.base
      clear gs6 hOy1
      go_wp2_with fail
      refine wp_region_held_drew (S := (fun w' => Below w6.heap.size w6 w')) (by kernel_rfl) (Below.refl _ _).drew (fun hHeld => ?_)
      refine takeH 0 ?_
      refine takeH 1 ?_
      refine takeH 2 ?_
      refine takeH 5 ?_
      refine takeH 6 ?_
      refine takeH 7 ?_
      refine takeH 8 ?_
      refine takeH 9 ?_
      refine takeH 10 ?_
      refine takeH 11 ?_
      refine takeH 12 ?_
      refine takeH 13 ?_
      refine oneL 3 rfl (by kernel_rfl) (fun K hK => ?_)
      go_simp
      refine (hOy6.out _ hHeld).mono ?_; rintro e w8 ⟨rfl, hb⟩
      refine hK.out _ _ (hHeld.trans (hb.mono hHeld.size)) (fun hHeld2 => ?_)
      clear hK K hHeld
      have hHeld := hHeld2
      clear hHeld2
      try simp only [Act.put,sA,sB,sC]
      refine takeH 4 ?_
      refine takeH 14 ?_
      refine oneL 15 rfl (by kernel_rfl) (fun K hK => ?_)
      go_simp
      refine (hEn.out _).mono ?_; rintro e w9 ⟨bq, rfl, hbq, hC2, hb⟩
      have hbq2 : w6.heap.size ≤ bq := Nat.le_trans hHeld.size hbq
      refine hK.out _ _ (hHeld.trans (hb.mono hHeld.size)) (fun hHeld2 => ?_)
      clear hK K hHeld
      have hHeld := hHeld2
      clear hHeld2
      try simp only [Act.put,sA,sB,sC]
      refine takeH 16 ?_
      refine takeH 17 ?_
      refine takeH 18 ?_
      refine takeH 19 ?_
      refine takeH 20 ?_
      refine wpAnyH_done (by kernel_rfl) ?_ _
      have hS9 := hS6.keep hHeld
      clear hCF hOy6 hEn hS6 hBl6 y3 y4 y5 y6 y9 ya yb ye
      obtain ⟨d0, d1⟩ := hC2
      have hne : ¬ bq = B := by have := hBlt.2; have := hHeld.size; omega
      have hne2 : ¬ B = bq := fun e => hne e.symm
      obtain ⟨a0, b0⟩ := hS9.o.cell hS9.l (i := p) (by omega)
      obtain ⟨p1, hp1⟩ : ∃ q, p + 1 = q := ⟨_, rfl⟩
      have yp : (p : Int) + 1 = (p1 : Int) := by omega
      have yq : IntKind.i64.wrap (p1 : Int) = (p1 : Int) := wrapQ _ (by omega) (by omega)
      have hpN : (p : Int) < (N : Int) := by omega
      have hp1N : (p1 : Int) < (N : Int) := by omega
      rw [hp1] at hstep
      have hT1 := hS9.set p (hdW ty sz) (by omega)
      obtain ⟨a1, b1⟩ := hT1.o.cell hT1.l (i := p1) (by omega)
      have d1' : (w9.setCell ⟨B, p, none⟩ (.int .u64 (hdW ty sz : Nat))).cell? ⟨bq, 1, none⟩ = some (.int .u64 (sn : Nat)) := by rw [World.cell?_setCell_far _ _ _ _ hne2]; exact d1
      have hT2 := hT1.set p1 sn (by omega)
      have gs9 := (row_cell hT2.s 6).1
      have yr : IntKind.i64.wrap (s.root : Int) = (s.root : Int) := wrapQ _ (by omega) (by omega)
      obtain ⟨a2, b2⟩ := hT2.o.cell hT2.l (i := 8) (by omega)
      have hT3 := hT2.set 8 p (by omega)
      have yv : IntKind.u64.wrap (p : Int) = (p : Int) := by rw [IntKind.wrap_u64]; omega
      have h8N : (8 : Int) < (N : Int) := by omega
      replace hT1 := lh hT1
      replace hT2 := lh hT2
      replace hT3 := lh hT3
      clear hS9
      by_cases hro : s.root = i1
      ·rw [if_pos hro] at hstep
       have hro' : (s.root : Int) = (i1 : Int) := by omega
       have hSE := hT3.out
       rw [← hstep] at hSE
       replace hSE := lh hSE
       replace hstep := lh hstep
       replace hro := lh hro
       clear hHeld
       go_wp2_with fail
       go_roundw
       case rel => exact ⟨i1, by omega, by first | rfl | go_num, lh hBw2, hSE.out⟩
       case measure => first | (simp [intOf]; done) | (simp [intOf]; omega)
      ·rw [if_neg hro] at hstep
       have hro' : ¬ (s.root : Int) = (i1 : Int) := by omega
       have hro2 : ((s.root : Int) == (i1 : Int)) = false := beq_eq_false_iff_ne.2 hro'
       have hSE := hT2.out
       rw [← hstep] at hSE
       replace hSE := lh hSE
       replace hstep := lh hstep
       clear hHeld
       go_wp2_with fail
       go_roundw
       case rel => exact ⟨i1, by omega, by first | rfl | go_num, lh hBw2, hSE.out⟩
       case measure => first | (simp [intOf]; done) | (simp [intOf]; omega)
     ·subst hmm
      replace hPt1 := lh (fun w1 => show Calls Tryz.prog 27 #[.agg #[.int .i64 (N : Nat), .int .i64 (L : Nat)], .agg #[.int .i64 (bc : Nat), .int .i64 (bj : Nat), .int .i64 8]] w1 (fun e w' => e = .returned (.int .i64 (p : Nat)) ∧ Below w1.heap.size w1 w') from hPt1 w1)
      replace k2 : wr.cell? ⟨g5, o5 + i * 3 + 2, none⟩ = some (.int .i64 8) := k2
      have e4 := bZ wr (.cells #[.int .i64 (bc : Nat), .int .i64 (bj : Nat), .int .i64 8] 61)
      have gK := HB.new wr #[.int .i64 (bc : Nat), .int .i64 (bj : Nat), .int .i64 8] 61
      obtain ⟨w4, hw4⟩ : ∃ x, wr.alloc (.cells #[.int .i64 (bc : Nat), .int .i64 (bj : Nat), .int .i64 8] 61) = x := ⟨_, rfl⟩
      rw [hw4] at e4 gK
      obtain ⟨Kb, hKb⟩ : ∃ K, wr.heap.size = K := ⟨_, rfl⟩
      rw [hKb] at gK
      have hS4 := hS.keep e4
      have gs4 := (row_cell hS4.s 4).1
      have t0 := (row_cell gK 0).1
      have t1 := (row_cell gK 1).1
      have t2 := (row_cell gK 2).1
      have hBl4 := hS4.below
      have hOe4 := hOe1.out w4 hBl4
      clear e4 hS hOe1 hOe
      obtain ⟨q, hq⟩ : ∃ q, r % 4 = q := ⟨_, rfl⟩
      have x1 : (r : Int) % 4 = (q : Int) := by omega
      obtain ⟨sz, hszE⟩ : ∃ z, szS s i 8 = z := ⟨_, rfl⟩
      rw [if_neg (by decide), if_pos rfl] at hsz
      have x2 : (6 : Int) - (q : Int) = (sz : Int) := by omega
      rw [hszE] at hstep
      have x3 : IntKind.i64.wrap (sz : Int) = (sz : Int) := wrapQ _ (by omega) (by omega)
      have hsz4 : sz ≤ 4096 := by omega
      clear hsz hq hszE
      go_wp2_with fail
      refine hOe4.mono ?_
      rintro e w5 ⟨rfl, hb5⟩
      have hS5 := hS4.keep hb5
      have gK5 := gK.keep hb5
      obtain ⟨g0, g1⟩ := hS5.g.c2
      clear t0 t1 t2 gs4 gK hS4 hBl4 hOe4 hb5
      have t0 := (row_cell gK5 0).1
      have t1 := (row_cell gK5 1).1
      have t2 := (row_cell gK5 2).1
      go_wp2_with fail
      refine (hPt1.out _).mono ?_
      rintro e w6 ⟨rfl, hb6⟩
      have hS6 := hS5.keep hb6
      have hBl6 := hS6.below
      have gs6 := (row_cell hS6.s 6).1
      clear t0 t1 t2 g0 g1 gK5 hS5 hb6 hPt1 x1 x2 x3
      obtain ⟨ty, hty⟩ : ∃ t, 1 + ry = t := ⟨_, rfl⟩
      have y3 : (1 : Int) + (ry : Int) = (ty : Int) := by omega
      have y4 : IntKind.i64.wrap (ty : Int) = (ty : Int) := wrapQ _ (by omega) (by omega)
      obtain ⟨E, hE⟩ : ∃ e, 4294967296 * s.ep = e := ⟨_, rfl⟩
      have y5 : (4294967296 : Int) * (s.ep : Int) = (E : Int) := by omega
      have y6 : IntKind.u64.wrap (E : Int) = (E : Int) := by rw [IntKind.wrap_u64]; omega
      obtain ⟨i1, hi1⟩ : ∃ e, i + 1 = e := ⟨_, rfl⟩
      have y7 : (i : Int) + 1 = (i1 : Int) := by omega
      have y8 : IntKind.i64.wrap (i1 : Int) = (i1 : Int) := wrapQ _ (by omega) (by omega)
      have y9 : IntKind.u64.wrap (i1 : Int) = (i1 : Int) := by rw [IntKind.wrap_u64]; omega
      obtain ⟨sn, hsn⟩ : ∃ e, E + i1 = e := ⟨_, rfl⟩
      have ya : (E : Int) + (i1 : Int) = (sn : Int) := by omega
      have yb : IntKind.u64.wrap (sn : Int) = (sn : Int) := by rw [IntKind.wrap_u64]; omega
      have ye : IntKind.u64.wrap (s.ep : Int) = (s.ep : Int) := by rw [IntKind.wrap_u64]; omega
      rw [hty, hE, hi1, hsn] at hstep
      rw [hi1] at hBw2
      have hEn := lh (fun w1 => encY ty sz sn w1 (hd_t.2 (by omega)))
      have hCF := lh (fun w' (hb : Below w6.heap.size w6 w') => show w'.cell? ⟨w.heap.size, 3, none⟩ = some (.slice AY nY cY) ∧ w'.cell? ⟨w.heap.size, 5, none⟩ = some (.int .u32 (s.ep : Nat)) from ⟨(row_cell (hS6.s.keep hb) 3).1, (row_cell (hS6.s.keep hb) 5).1⟩)
      have hOy6 := lh (fun w1 (hb : Below w6.heap.size w6 w1) => hOy1.out w1 (hBl6.trans (hb.mono hBl6.size)))
      have hBlt := hS6.base
      clear gs6 hOy1
      go_wp2_with fail
      refine wp_region_held_drew (S := (fun w' => Below w6.heap.size w6 w')) (by kernel_rfl) (Below.refl _ _).drew (fun hHeld => ?_)
      refine takeH 0 ?_
      refine takeH 1 ?_
      refine takeH 2 ?_
      refine takeH 5 ?_
      refine takeH 6 ?_
      refine takeH 7 ?_
      refine takeH 8 ?_
      refine takeH 9 ?_
      refine takeH 10 ?_
      refine takeH 11 ?_
      refine takeH 12 ?_
      refine takeH 13 ?_
      refine oneL 3 rfl (by kernel_rfl) (fun K hK => ?_)
      go_simp
      refine (hOy6.out _ hHeld).mono ?_; rintro e w8 ⟨rfl, hb⟩
      refine hK.out _ _ (hHeld.trans (hb.mono hHeld.size)) (fun hHeld2 => ?_)
      clear hK K hHeld
      have hHeld := hHeld2
      clear hHeld2
      try simp only [Act.put,sA,sB,sC]
      refine takeH 4 ?_
      refine takeH 14 ?_
      refine oneL 15 rfl (by kernel_rfl) (fun K hK => ?_)
      go_simp
      refine (hEn.out _).mono ?_; rintro e w9 ⟨bq, rfl, hbq, hC2, hb⟩
      have hbq2 : w6.heap.size ≤ bq := Nat.le_trans hHeld.size hbq
      refine hK.out _ _ (hHeld.trans (hb.mono hHeld.size)) (fun hHeld2 => ?_)
      clear hK K hHeld
      have hHeld := hHeld2
      clear hHeld2
      try simp only [Act.put,sA,sB,sC]
      refine takeH 16 ?_
      refine takeH 17 ?_
      refine takeH 18 ?_
      refine takeH 19 ?_
      refine takeH 20 ?_
      refine wpAnyH_done (by kernel_rfl) ?_ _
      have hS9 := hS6.keep hHeld
      clear hCF hOy6 hEn hS6 hBl6 y3 y4 y5 y6 y9 ya yb ye
      obtain ⟨d0, d1⟩ := hC2
      have hne : ¬ bq = B := by have := hBlt.2; have := hHeld.size; omega
      have hne2 : ¬ B = bq := fun e => hne e.symm
      obtain ⟨a0, b0⟩ := hS9.o.cell hS9.l (i := p) (by omega)
      obtain ⟨p1, hp1⟩ : ∃ q, p + 1 = q := ⟨_, rfl⟩
      have yp : (p : Int) + 1 = (p1 : Int) := by omega
      have yq : IntKind.i64.wrap (p1 : Int) = (p1 : Int) := wrapQ _ (by omega) (by omega)
      have hpN : (p : Int) < (N : Int) := by omega
      have hp1N : (p1 : Int) < (N : Int) := by omega
      rw [hp1] at hstep
      have hT1 := hS9.set p (hdW ty sz) (by omega)
      obtain ⟨a1, b1⟩ := hT1.o.cell hT1.l (i := p1) (by omega)
      have d1' : (w9.setCell ⟨B, p, none⟩ (.int .u64 (hdW ty sz : Nat))).cell? ⟨bq, 1, none⟩ = some (.int .u64 (sn : Nat)) := by rw [World.cell?_setCell_far _ _ _ _ hne2]; exact d1
      have hT2 := hT1.set p1 sn (by omega)
      have gs9 := (row_cell hT2.s 6).1
      have yr : IntKind.i64.wrap (s.root : Int) = (s.root : Int) := wrapQ _ (by omega) (by omega)
      obtain ⟨a2, b2⟩ := hT2.o.cell hT2.l (i := 8) (by omega)
      have hT3 := hT2.set 8 p (by omega)
      have yv : IntKind.u64.wrap (p : Int) = (p : Int) := by rw [IntKind.wrap_u64]; omega
      have h8N : (8 : Int) < (N : Int) := by omega
      replace hT1 := lh hT1
      replace hT2 := lh hT2
      replace hT3 := lh hT3
      clear hS9
      by_cases hro : s.root = i1
      ·rw [if_pos hro] at hstep
       have hro' : (s.root : Int) = (i1 : Int) := by omega
       have hSE := hT3.out
       rw [← hstep] at hSE
       replace hSE := lh hSE
       replace hstep := lh hstep
       replace hro := lh hro
       clear hHeld
       go_wp2_with fail
       go_roundw
       case rel => exact ⟨i1, by omega, by first | rfl | go_num, lh hBw2, hSE.out⟩
       case measure => first | (simp [intOf]; done) | (simp [intOf]; omega)
      ·rw [if_neg hro] at hstep
       have hro' : ¬ (s.root : Int) = (i1 : Int) := by omega
       have hro2 : ((s.root : Int) == (i1 : Int)) = false := beq_eq_false_iff_ne.2 hro'
       have hSE := hT2.out
       rw [← hstep] at hSE
       replace hSE := lh hSE
       replace hstep := lh hstep
       clear hHeld
       go_wp2_with fail
       go_roundw
       case rel => exact ⟨i1, by omega, by first | rfl | go_num, lh hBw2, hSE.out⟩
       case measure => first | (simp [intOf]; done) | (simp [intOf]; omega)
     ·subst hmm
      replace hPt1 := lh (fun w1 => show Calls Tryz.prog 27 #[.agg #[.int .i64 (N : Nat), .int .i64 (L : Nat)], .agg #[.int .i64 (bc : Nat), .int .i64 (bj : Nat), .int .i64 16]] w1 (fun e w' => e = .returned (.int .i64 (p : Nat)) ∧ Below w1.heap.size w1 w') from hPt1 w1)
      replace k2 : wr.cell? ⟨g5, o5 + i * 3 + 2, none⟩ = some (.int .i64 16) := k2
      have e4 := bZ wr (.cells #[.int .i64 (bc : Nat), .int .i64 (bj : Nat), .int .i64 16] 61)
      have gK := HB.new wr #[.int .i64 (bc : Nat), .int .i64 (bj : Nat), .int .i64 16] 61
      obtain ⟨w4, hw4⟩ : ∃ x, wr.alloc (.cells #[.int .i64 (bc : Nat), .int .i64 (bj : Nat), .int .i64 16] 61) = x := ⟨_, rfl⟩
      rw [hw4] at e4 gK
      obtain ⟨Kb, hKb⟩ : ∃ K, wr.heap.size = K := ⟨_, rfl⟩
      rw [hKb] at gK
      have hS4 := hS.keep e4
      have gs4 := (row_cell hS4.s 4).1
      have t0 := (row_cell gK 0).1
      have t1 := (row_cell gK 1).1
      have t2 := (row_cell gK 2).1
      have hBl4 := hS4.below
      have hOe4 := hOe1.out w4 hBl4
      clear e4 hS hOe1 hOe
      obtain ⟨q, hq⟩ : ∃ q, r % 8 = q := ⟨_, rfl⟩
      have x1 : (r : Int) % 8 = (q : Int) := by omega
      obtain ⟨sz, hszE⟩ : ∃ z, szS s i 16 = z := ⟨_, rfl⟩
      rw [if_neg (by decide), if_neg (by decide), if_pos rfl] at hsz
      have x2 : (14 : Int) - (q : Int) = (sz : Int) := by omega
      rw [hszE] at hstep
      have x3 : IntKind.i64.wrap (sz : Int) = (sz : Int) := wrapQ _ (by omega) (by omega)
      have hsz4 : sz ≤ 4096 := by omega
      clear hsz hq hszE
      go_wp2_with fail
      refine hOe4.mono ?_
      rintro e w5 ⟨rfl, hb5⟩
      have hS5 := hS4.keep hb5
      have gK5 := gK.keep hb5
      obtain ⟨g0, g1⟩ := hS5.g.c2
      clear t0 t1 t2 gs4 gK hS4 hBl4 hOe4 hb5
      have t0 := (row_cell gK5 0).1
      have t1 := (row_cell gK5 1).1
      have t2 := (row_cell gK5 2).1
      go_wp2_with fail
      refine (hPt1.out _).mono ?_
      rintro e w6 ⟨rfl, hb6⟩
      have hS6 := hS5.keep hb6
      have hBl6 := hS6.below
      have gs6 := (row_cell hS6.s 6).1
      clear t0 t1 t2 g0 g1 gK5 hS5 hb6 hPt1 x1 x2 x3
      obtain ⟨ty, hty⟩ : ∃ t, 1 + ry = t := ⟨_, rfl⟩
      have y3 : (1 : Int) + (ry : Int) = (ty : Int) := by omega
      have y4 : IntKind.i64.wrap (ty : Int) = (ty : Int) := wrapQ _ (by omega) (by omega)
      obtain ⟨E, hE⟩ : ∃ e, 4294967296 * s.ep = e := ⟨_, rfl⟩
      have y5 : (4294967296 : Int) * (s.ep : Int) = (E : Int) := by omega
      have y6 : IntKind.u64.wrap (E : Int) = (E : Int) := by rw [IntKind.wrap_u64]; omega
      obtain ⟨i1, hi1⟩ : ∃ e, i + 1 = e := ⟨_, rfl⟩
      have y7 : (i : Int) + 1 = (i1 : Int) := by omega
      have y8 : IntKind.i64.wrap (i1 : Int) = (i1 : Int) := wrapQ _ (by omega) (by omega)
      have y9 : IntKind.u64.wrap (i1 : Int) = (i1 : Int) := by rw [IntKind.wrap_u64]; omega
      obtain ⟨sn, hsn⟩ : ∃ e, E + i1 = e := ⟨_, rfl⟩
      have ya : (E : Int) + (i1 : Int) = (sn : Int) := by omega
      have yb : IntKind.u64.wrap (sn : Int) = (sn : Int) := by rw [IntKind.wrap_u64]; omega
      have ye : IntKind.u64.wrap (s.ep : Int) = (s.ep : Int) := by rw [IntKind.wrap_u64]; omega
      rw [hty, hE, hi1, hsn] at hstep
      rw [hi1] at hBw2
      have hEn := lh (fun w1 => encY ty sz sn w1 (hd_t.2 (by omega)))
      have hCF := lh (fun w' (hb : Below w6.heap.size w6 w') => show w'.cell? ⟨w.heap.size, 3, none⟩ = some (.slice AY nY cY) ∧ w'.cell? ⟨w.heap.size, 5, none⟩ = some (.int .u32 (s.ep : Nat)) from ⟨(row_cell (hS6.s.keep hb) 3).1, (row_cell (hS6.s.keep hb) 5).1⟩)
      have hOy6 := lh (fun w1 (hb : Below w6.heap.size w6 w1) => hOy1.out w1 (hBl6.trans (hb.mono hBl6.size)))
      have hBlt := hS6.base
      clear gs6 hOy1
      go_wp2_with fail
      refine wp_region_held_drew (S := (fun w' => Below w6.heap.size w6 w')) (by kernel_rfl) (Below.refl _ _).drew (fun hHeld => ?_)
      refine takeH 0 ?_
      refine takeH 1 ?_
      refine takeH 2 ?_
      refine takeH 5 ?_
      refine takeH 6 ?_
      refine takeH 7 ?_
      refine takeH 8 ?_
      refine takeH 9 ?_
      refine takeH 10 ?_
      refine takeH 11 ?_
      refine takeH 12 ?_
      refine takeH 13 ?_
      refine oneL 3 rfl (by kernel_rfl) (fun K hK => ?_)
      go_simp
      refine (hOy6.out _ hHeld).mono ?_; rintro e w8 ⟨rfl, hb⟩
      refine hK.out _ _ (hHeld.trans (hb.mono hHeld.size)) (fun hHeld2 => ?_)
      clear hK K hHeld
      have hHeld := hHeld2
      clear hHeld2
      try simp only [Act.put,sA,sB,sC]
      refine takeH 4 ?_
      refine takeH 14 ?_
      refine oneL 15 rfl (by kernel_rfl) (fun K hK => ?_)
      go_simp
      refine (hEn.out _).mono ?_; rintro e w9 ⟨bq, rfl, hbq, hC2, hb⟩
      have hbq2 : w6.heap.size ≤ bq := Nat.le_trans hHeld.size hbq
      refine hK.out _ _ (hHeld.trans (hb.mono hHeld.size)) (fun hHeld2 => ?_)
      clear hK K hHeld
      have hHeld := hHeld2
      clear hHeld2
      try simp only [Act.put,sA,sB,sC]
      refine takeH 16 ?_
      refine takeH 17 ?_
      refine takeH 18 ?_
      refine takeH 19 ?_
      refine takeH 20 ?_
      refine wpAnyH_done (by kernel_rfl) ?_ _
      have hS9 := hS6.keep hHeld
      clear hCF hOy6 hEn hS6 hBl6 y3 y4 y5 y6 y9 ya yb ye
      obtain ⟨d0, d1⟩ := hC2
      have hne : ¬ bq = B := by have := hBlt.2; have := hHeld.size; omega
      have hne2 : ¬ B = bq := fun e => hne e.symm
      obtain ⟨a0, b0⟩ := hS9.o.cell hS9.l (i := p) (by omega)
      obtain ⟨p1, hp1⟩ : ∃ q, p + 1 = q := ⟨_, rfl⟩
      have yp : (p : Int) + 1 = (p1 : Int) := by omega
      have yq : IntKind.i64.wrap (p1 : Int) = (p1 : Int) := wrapQ _ (by omega) (by omega)
      have hpN : (p : Int) < (N : Int) := by omega
      have hp1N : (p1 : Int) < (N : Int) := by omega
      rw [hp1] at hstep
      have hT1 := hS9.set p (hdW ty sz) (by omega)
      obtain ⟨a1, b1⟩ := hT1.o.cell hT1.l (i := p1) (by omega)
      have d1' : (w9.setCell ⟨B, p, none⟩ (.int .u64 (hdW ty sz : Nat))).cell? ⟨bq, 1, none⟩ = some (.int .u64 (sn : Nat)) := by rw [World.cell?_setCell_far _ _ _ _ hne2]; exact d1
      have hT2 := hT1.set p1 sn (by omega)
      have gs9 := (row_cell hT2.s 6).1
      have yr : IntKind.i64.wrap (s.root : Int) = (s.root : Int) := wrapQ _ (by omega) (by omega)
      obtain ⟨a2, b2⟩ := hT2.o.cell hT2.l (i := 8) (by omega)
      have hT3 := hT2.set 8 p (by omega)
      have yv : IntKind.u64.wrap (p : Int) = (p : Int) := by rw [IntKind.wrap_u64]; omega
      have h8N : (8 : Int) < (N : Int) := by omega
      replace hT1 := lh hT1
      replace hT2 := lh hT2
      replace hT3 := lh hT3
      clear hS9
      by_cases hro : s.root = i1
      ·rw [if_pos hro] at hstep
       have hro' : (s.root : Int) = (i1 : Int) := by omega
       have hSE := hT3.out
       rw [← hstep] at hSE
       replace hSE := lh hSE
       replace hstep := lh hstep
       replace hro := lh hro
       clear hHeld
       go_wp2_with fail
       go_roundw
       case rel => exact ⟨i1, by omega, by first | rfl | go_num, lh hBw2, hSE.out⟩
       case measure => first | (simp [intOf]; done) | (simp [intOf]; omega)
      ·rw [if_neg hro] at hstep
       have hro' : ¬ (s.root : Int) = (i1 : Int) := by omega
       have hro2 : ((s.root : Int) == (i1 : Int)) = false := beq_eq_false_iff_ne.2 hro'
       have hSE := hT2.out
       rw [← hstep] at hSE
       replace hSE := lh hSE
       replace hstep := lh hstep
       clear hHeld
       go_wp2_with fail
       go_roundw
       case rel => exact ⟨i1, by omega, by first | rfl | go_num, lh hBw2, hSE.out⟩
       case measure => first | (simp [intOf]; done) | (simp [intOf]; omega)
     ·replace hPt1 := lh (fun w1 => show Calls Tryz.prog 27 #[.agg #[.int .i64 (N : Nat), .int .i64 (L : Nat)], .agg #[.int .i64 (bc : Nat), .int .i64 (bj : Nat), .int .i64 (bm : Nat)]] w1 (fun e w' => e = .returned (.int .i64 (p : Nat)) ∧ Below w1.heap.size w1 w') from hPt1 w1)
      replace k2 : wr.cell? ⟨g5, o5 + i * 3 + 2, none⟩ = some (.int .i64 (bm : Nat)) := k2
      have e4 := bZ wr (.cells #[.int .i64 (bc : Nat), .int .i64 (bj : Nat), .int .i64 (bm : Nat)] 61)
      have gK := HB.new wr #[.int .i64 (bc : Nat), .int .i64 (bj : Nat), .int .i64 (bm : Nat)] 61
      obtain ⟨w4, hw4⟩ : ∃ x, wr.alloc (.cells #[.int .i64 (bc : Nat), .int .i64 (bj : Nat), .int .i64 (bm : Nat)] 61) = x := ⟨_, rfl⟩
      rw [hw4] at e4 gK
      obtain ⟨Kb, hKb⟩ : ∃ K, wr.heap.size = K := ⟨_, rfl⟩
      rw [hKb] at gK
      have hS4 := hS.keep e4
      have gs4 := (row_cell hS4.s 4).1
      have t0 := (row_cell gK 0).1
      have t1 := (row_cell gK 1).1
      have t2 := (row_cell gK 2).1
      have hBl4 := hS4.below
      have hOe4 := hOe1.out w4 hBl4
      clear e4 hS hOe1 hOe
      have m4 : ¬ (bm : Int) = 4 := by omega
      have m8 : ¬ (bm : Int) = 8 := by omega
      have m16 : ¬ (bm : Int) = 16 := by omega
      have m32 : (32 : Int) ≤ (bm : Int) := by omega
      have b4 : ((bm : Int) == 4) = false := beq_eq_false_iff_ne.2 m4
      have b8 : ((bm : Int) == 8) = false := beq_eq_false_iff_ne.2 m8
      have b16 : ((bm : Int) == 16) = false := beq_eq_false_iff_ne.2 m16
      obtain ⟨bm2, hbm2⟩ : ∃ x, bm - 2 = x := ⟨_, rfl⟩
      have y1 : (bm : Int) - 2 = (bm2 : Int) := by omega
      have y2 : IntKind.i64.wrap (bm2 : Int) = (bm2 : Int) := wrapQ _ (by omega) (by omega)
      obtain ⟨q, hq⟩ : ∃ q, r % 16 = q := ⟨_, rfl⟩
      have x1 : (r : Int) % 16 = (q : Int) := by omega
      obtain ⟨sz, hszE⟩ : ∃ z, szS s i bm = z := ⟨_, rfl⟩
      rw [if_neg (by omega), if_neg (by omega), if_neg (by omega)] at hsz
      have x2 : (bm2 : Int) - (q : Int) = (sz : Int) := by omega
      rw [hszE] at hstep
      have x3 : IntKind.i64.wrap (sz : Int) = (sz : Int) := wrapQ _ (by omega) (by omega)
      have hsz4 : sz ≤ 4096 := by omega
      clear hsz hq hszE
      go_wp2_with fail
      refine hOe4.mono ?_
      rintro e w5 ⟨rfl, hb5⟩
      have hS5 := hS4.keep hb5
      have gK5 := gK.keep hb5
      obtain ⟨g0, g1⟩ := hS5.g.c2
      clear t0 t1 t2 gs4 gK hS4 hBl4 hOe4 hb5
      have t0 := (row_cell gK5 0).1
      have t1 := (row_cell gK5 1).1
      have t2 := (row_cell gK5 2).1
      go_wp2_with fail
      refine (hPt1.out _).mono ?_
      rintro e w6 ⟨rfl, hb6⟩
      have hS6 := hS5.keep hb6
      have hBl6 := hS6.below
      have gs6 := (row_cell hS6.s 6).1
      clear t0 t1 t2 g0 g1 gK5 hS5 hb6 hPt1 x1 x2 x3
      obtain ⟨ty, hty⟩ : ∃ t, 1 + ry = t := ⟨_, rfl⟩
      have y3 : (1 : Int) + (ry : Int) = (ty : Int) := by omega
      have y4 : IntKind.i64.wrap (ty : Int) = (ty : Int) := wrapQ _ (by omega) (by omega)
      obtain ⟨E, hE⟩ : ∃ e, 4294967296 * s.ep = e := ⟨_, rfl⟩
      have y5 : (4294967296 : Int) * (s.ep : Int) = (E : Int) := by omega
      have y6 : IntKind.u64.wrap (E : Int) = (E : Int) := by rw [IntKind.wrap_u64]; omega
      obtain ⟨i1, hi1⟩ : ∃ e, i + 1 = e := ⟨_, rfl⟩
      have y7 : (i : Int) + 1 = (i1 : Int) := by omega
      have y8 : IntKind.i64.wrap (i1 : Int) = (i1 : Int) := wrapQ _ (by omega) (by omega)
      have y9 : IntKind.u64.wrap (i1 : Int) = (i1 : Int) := by rw [IntKind.wrap_u64]; omega
      obtain ⟨sn, hsn⟩ : ∃ e, E + i1 = e := ⟨_, rfl⟩
      have ya : (E : Int) + (i1 : Int) = (sn : Int) := by omega
      have yb : IntKind.u64.wrap (sn : Int) = (sn : Int) := by rw [IntKind.wrap_u64]; omega
      have ye : IntKind.u64.wrap (s.ep : Int) = (s.ep : Int) := by rw [IntKind.wrap_u64]; omega
      rw [hty, hE, hi1, hsn] at hstep
      rw [hi1] at hBw2
      have hEn := lh (fun w1 => encY ty sz sn w1 (hd_t.2 (by omega)))
      have hCF := lh (fun w' (hb : Below w6.heap.size w6 w') => show w'.cell? ⟨w.heap.size, 3, none⟩ = some (.slice AY nY cY) ∧ w'.cell? ⟨w.heap.size, 5, none⟩ = some (.int .u32 (s.ep : Nat)) from ⟨(row_cell (hS6.s.keep hb) 3).1, (row_cell (hS6.s.keep hb) 5).1⟩)
      have hOy6 := lh (fun w1 (hb : Below w6.heap.size w6 w1) => hOy1.out w1 (hBl6.trans (hb.mono hBl6.size)))
      have hBlt := hS6.base
      clear gs6 hOy1
      go_wp2_with fail
      refine wp_region_held_drew (S := (fun w' => Below w6.heap.size w6 w')) (by kernel_rfl) (Below.refl _ _).drew (fun hHeld => ?_)
      refine takeH 0 ?_
      refine takeH 1 ?_
      refine takeH 2 ?_
      refine takeH 5 ?_
      refine takeH 6 ?_
      refine takeH 7 ?_
      refine takeH 8 ?_
      refine takeH 9 ?_
      refine takeH 10 ?_
      refine takeH 11 ?_
      refine takeH 12 ?_
      refine takeH 13 ?_
      refine oneL 3 rfl (by kernel_rfl) (fun K hK => ?_)
      go_simp
      refine (hOy6.out _ hHeld).mono ?_; rintro e w8 ⟨rfl, hb⟩
      refine hK.out _ _ (hHeld.trans (hb.mono hHeld.size)) (fun hHeld2 => ?_)
      clear hK K hHeld
      have hHeld := hHeld2
      clear hHeld2
      try simp only [Act.put,sA,sB,sC]
      refine takeH 4 ?_
      refine takeH 14 ?_
      refine oneL 15 rfl (by kernel_rfl) (fun K hK => ?_)
      go_simp
      refine (hEn.out _).mono ?_; rintro e w9 ⟨bq, rfl, hbq, hC2, hb⟩
      have hbq2 : w6.heap.size ≤ bq := Nat.le_trans hHeld.size hbq
      refine hK.out _ _ (hHeld.trans (hb.mono hHeld.size)) (fun hHeld2 => ?_)
      clear hK K hHeld
      have hHeld := hHeld2
      clear hHeld2
      try simp only [Act.put,sA,sB,sC]
      refine takeH 16 ?_
      refine takeH 17 ?_
      refine takeH 18 ?_
      refine takeH 19 ?_
      refine takeH 20 ?_
      refine wpAnyH_done (by kernel_rfl) ?_ _
      have hS9 := hS6.keep hHeld
      clear hCF hOy6 hEn hS6 hBl6 y3 y4 y5 y6 y9 ya yb ye
      obtain ⟨d0, d1⟩ := hC2
      have hne : ¬ bq = B := by have := hBlt.2; have := hHeld.size; omega
      have hne2 : ¬ B = bq := fun e => hne e.symm
      obtain ⟨a0, b0⟩ := hS9.o.cell hS9.l (i := p) (by omega)
      obtain ⟨p1, hp1⟩ : ∃ q, p + 1 = q := ⟨_, rfl⟩
      have yp : (p : Int) + 1 = (p1 : Int) := by omega
      have yq : IntKind.i64.wrap (p1 : Int) = (p1 : Int) := wrapQ _ (by omega) (by omega)
      have hpN : (p : Int) < (N : Int) := by omega
      have hp1N : (p1 : Int) < (N : Int) := by omega
      rw [hp1] at hstep
      have hT1 := hS9.set p (hdW ty sz) (by omega)
      obtain ⟨a1, b1⟩ := hT1.o.cell hT1.l (i := p1) (by omega)
      have d1' : (w9.setCell ⟨B, p, none⟩ (.int .u64 (hdW ty sz : Nat))).cell? ⟨bq, 1, none⟩ = some (.int .u64 (sn : Nat)) := by rw [World.cell?_setCell_far _ _ _ _ hne2]; exact d1
      have hT2 := hT1.set p1 sn (by omega)
      have gs9 := (row_cell hT2.s 6).1
      have yr : IntKind.i64.wrap (s.root : Int) = (s.root : Int) := wrapQ _ (by omega) (by omega)
      obtain ⟨a2, b2⟩ := hT2.o.cell hT2.l (i := 8) (by omega)
      have hT3 := hT2.set 8 p (by omega)
      have yv : IntKind.u64.wrap (p : Int) = (p : Int) := by rw [IntKind.wrap_u64]; omega
      have h8N : (8 : Int) < (N : Int) := by omega
      replace hT1 := lh hT1
      replace hT2 := lh hT2
      replace hT3 := lh hT3
      clear hS9
      by_cases hro : s.root = i1
      ·rw [if_pos hro] at hstep
       have hro' : (s.root : Int) = (i1 : Int) := by omega
       have hSE := hT3.out
       rw [← hstep] at hSE
       replace hSE := lh hSE
       replace hstep := lh hstep
       replace hro := lh hro
       clear hHeld
       go_wp2_with fail
       go_roundw
       case rel => exact ⟨i1, by omega, by first | rfl | go_num, lh hBw2, hSE.out⟩
       case measure => first | (simp [intOf]; done) | (simp [intOf]; omega)
      ·rw [if_neg hro] at hstep
       have hro' : ¬ (s.root : Int) = (i1 : Int) := by omega
       have hro2 : ((s.root : Int) == (i1 : Int)) = false := beq_eq_false_iff_ne.2 hro'
       have hSE := hT2.out
       rw [← hstep] at hSE
       replace hSE := lh hSE
       replace hstep := lh hstep
       clear hHeld
       go_wp2_with fail
       go_roundw
       case rel => exact ⟨i1, by omega, by first | rfl | go_num, lh hBw2, hSE.out⟩
       case measure => first | (simp [intOf]; done) | (simp [intOf]; omega)
    ·obtain rfl : nR = i := by omega
     have hli' : ¬ (nR : Int) < (nR : Int) := by omega
     have hoe := hS.o
     have hbe := hS.below
     go_wp2_with fail
     go_ret
     first | exact ⟨_, rfl, hoe, hWr, hbe⟩ | exact ⟨_, rfl, hoe, hbe⟩
end Go.Proofs.YtdmmbnnejbmdpaaGreatDoor
end
section
namespace Go.Proofs.YtdmmbnnejbmdpaaGreatDoor
open Go.Lib Go.RowKit Go.ChangeShapes Go.WideShapes Go.Deep Go.Shelf
def k1 : Sk := { a := 0, b := 0, tiles := [33], types := [], less := [], ep := 0, root := 1, fill := [] }
theorem k1_few : fewS k1 = true := by decide
theorem k1_B : SkB k1 := ⟨by decide, by decide, fun x hx => by rw [List.mem_singleton.1 hx]; decide, fun x hx => (by cases hx), fun x hx => (by cases hx), by decide, by decide, fun x hx => (by cases hx)⟩
theorem k1_len : (stockL k1).length = 116 := by decide +kernel
theorem k1_s : soundB (stockL k1) = true := by decide +kernel
theorem k1_n : soundB ((stockL k1).take 100) = false := by decide +kernel
theorem k1_o : (objL (stockL k1)).length = 1 ∧ ((objL (stockL k1)).getD 0 default).1 = (84, 1, 1) := by decide +kernel
theorem k1_r : rootO (stockL k1) = (84, 1, 1) := by decide +kernel
theorem KL.one16 (w : World) (x : Nat) : KL .u16 (w.alloc (.cells #[.int .u16 (x : Nat)] (32 : Nat))) (.slice (some ⟨w.heap.size, 0, none⟩) 1 1) [x] := h_kl ((OwnE.lit 32 eH_len w [x] _ rfl (by simp)).el eH_len)
theorem awake16 (w : World) (hw : Lw w) : Calls Tryz.prog 10 #[] w fun e w' => e = .returned (.bool true) ∧ Below w.heap.size w w' := by
 have e1 := bZ w (.cells #[.int .u16 ((33 : Nat) : Int)] (32 : Nat))
 have hk := KL.one16 w 33
 obtain ⟨wa, hwa⟩ : ∃ x, w.alloc (.cells #[.int .u16 ((33 : Nat) : Int)] (32 : Nat)) = x := ⟨_, rfl⟩
 rw [hwa] at e1 hk
 have hSk := Stocked_any k1 (.slice (some ⟨w.heap.size, 0, none⟩) 1 1) (.slice none 0 0) (.slice none 0 0) (.slice none 0 0) wa (hw.keep e1) ⟨hk, ⟨none, 0, rfl, fun h => absurd h (by decide)⟩, ⟨none, 0, rfl, fun h => absurd h (by decide)⟩, ⟨none, 0, rfl, fun h => absurd h (by decide)⟩⟩ k1_B k1_few
 replace hSk : Calls Tryz.prog 12 #[.agg #[.int .u8 0, .int .u8 0, .slice (some ⟨w.heap.size, 0, none⟩) 1 1, .slice none 0 0, .slice none 0 0, .int .u32 0, .int .u8 1, .slice none 0 0]] wa (fun e w' => ∃ v', e = .returned v' ∧ OwnU w' wa.heap.size v' (stockL k1) ∧ Hid (WL (stockL k1)) ∧ Below wa.heap.size wa w') := hSk
 have i1 := k1_len
 have i2 := k1_s
 have i3 := k1_n
 obtain ⟨i4, i5⟩ := k1_o
 have i6 := k1_r
 generalize stockL k1 = X at *
 have hOb := lh (fun v w1 (h1 : Lw w1) (h2 : KL .u64 w1 v X) (h3 : WL X) => Objects_any v X w1 h1 h3 h2 (by omega))
 have hS1 := lh (fun v w1 (h1 : Lw w1) (h2 : KL .u64 w1 v X) (h3 : WL X) => show Calls Tryz.prog 13 #[v] w1 (fun e w' => e = .returned (.int .i64 0) ∧ Below w1.heap.size w1 w') from by
  have h := sound_any v X w1 h1 h3 h2 (by omega)
  rw [if_pos i2] at h
  exact h)
 have hS2 := lh (fun v w1 (h1 : Lw w1) (h2 : KL .u64 w1 v (X.take 100)) (h3 : WL X) => show Calls Tryz.prog 13 #[v] w1 (fun e w' => e = .returned (.int .i64 7) ∧ Below w1.heap.size w1 w') from by
  have h := sound_any v (X.take 100) w1 h1 (fun x hx => h3 x (List.mem_of_mem_take hx)) h2 (by rw [List.length_take]; omega)
  rw [i3] at h
  exact h)
 have hRo := lh (fun v w1 (h1 : Lw w1) (h2 : KL .u64 w1 v X) (h3 : WL X) => show Calls Tryz.prog 18 #[v] w1 (fun e w' => e = .returned (.agg #[.int .i64 84, .int .i64 1, .int .u64 1]) ∧ Below w1.heap.size w1 w') from by
  have h := Root_any v X w1 h1 h3 h2 (by omega)
  rw [i6] at h
  exact h)
 obtain ⟨i0, hi, hz0, hz1, hz2⟩ := info_parts infoU64
 generalize objL X = O at hOb i4 i5
 have hwk := lh (fun w1 (hb : Below w.heap.size w w1) => hw.keep hb)
 replace i1 := lh i1
 clear i2 i3 i6 hk hw
 go_enter Tryz.func10, Tryz.ntmps10
 subst hwa
 go_wp2_with fail
 refine hSk.mono ?_
 rintro e w1 ⟨v1, rfl, hO1, hW, hb1⟩
 have hB1 := e1.trans (hb1.mono e1.size)
 obtain ⟨A1, c1, hv1, hf1⟩ := OwnU.form hO1
 rw [i1.out] at hv1 hf1
 cases hv1
 obtain ⟨B, rfl, -, -⟩ := hf1 (by decide)
 have hk1 := hO1.kl
 have hcap : 100 ≤ c1 := by
  obtain ⟨A9, c9, hv9, h9⟩ := hk1.form i1.out
  cases hv9
  obtain ⟨_, _, _, h2, _⟩ := h9 w1 0 (Below.refl _ _) (by decide)
  omega
 have hOb1 := hOb.out _ w1 (hwk.out _ hB1) hk1 hW.out
 clear hSk e1 hb1 hf1 hO1 hOb
 go_wp2_with fail
 refine hOb1.mono ?_
 rintro e w2 ⟨v2, rfl, hJ, hb2⟩
 have hB2 := hB1.trans (hb2.mono hB1.size)
 have hk2 := hk1.keep hb2
 obtain ⟨xs, hx1, hx2⟩ := hJ
 have hxl : xs.length = 1 := by rw [hx2.1, i4]
 obtain ⟨A2, c2, rfl, hF⟩ := EL.form (hx1.el eJ_len) hxl
 obtain ⟨g2, o2, rfl, hc2, hg2, -, hcell⟩ := hF w2 0 (Below.refl _ _) (by decide)
 have hx0 := (hx2.2 0 (by rw [i4]; decide)).1
 rw [i5] at hx0
 generalize hxe : xs.getD 0 default = x0 at *
 obtain ⟨xa, xb, xc, xd⟩ := x0
 simp only [Prod.mk.injEq] at hx0
 obtain ⟨rfl, rfl, rfl⟩ := hx0
 have j0 : w2.cell? ⟨g2, o2, none⟩ = some (.int .i64 84) := hcell 0 (by decide)
 have j1 : w2.cell? ⟨g2, o2 + 1, none⟩ = some (.int .i64 1) := hcell 1 (by decide)
 have j2 : w2.cell? ⟨g2, o2 + 2, none⟩ = some (.int .u64 1) := hcell 2 (by decide)
 have hCF := lh (fun w' (hb : Below w2.heap.size w2 w') => show w'.cell? ⟨g2, o2, none⟩ = some (.int .i64 84) ∧ w'.cell? ⟨g2, o2 + 1, none⟩ = some (.int .i64 1) ∧ w'.cell? ⟨g2, o2 + 2, none⟩ = some (.int .u64 1) from
  ⟨by rw [(bcell hb).1 _ _ hg2]; exact j0, by rw [(bcell hb).1 _ _ hg2]; exact j1, by rw [(bcell hb).1 _ _ hg2]; exact j2⟩)
 have hcapI : (100 : Int) ≤ (c1 : Int) := by omega
 have hS1' := lh (fun w' (hb : Below w2.heap.size w2 w') => hS1.out _ w' (hwk.out _ (hB2.trans (hb.mono hB2.size))) (hk2.keep hb) hW.out)
 have hS2' := lh (fun w' (hb : Below w2.heap.size w2 w') => hS2.out (.slice (some ⟨B, 0, none⟩) 100 c1) w' (hwk.out _ (hB2.trans (hb.mono hB2.size))) (KL.take (hk2.keep hb) 100 (by rw [i1.out]; decide)) hW.out)
 have hRo' := lh (fun w' (hb : Below w2.heap.size w2 w') => hRo.out _ w' (hwk.out _ (hB2.trans (hb.mono hB2.size))) (hk2.keep hb) hW.out)
 clear hS1 hS2 hRo hOb1 hb2 hk1 hcell hF hx1 hx2 j0 j1 j2
 go_wp2_with fail
 refine wp_region_held_drew (S := (fun w' => Below w2.heap.size w2 w')) (by kernel_rfl) (Below.refl _ _).drew (fun hHeld => ?_)
 refine takeH 0 ?_
 refine oneL 1 rfl (by kernel_rfl) (fun K hK => ?_)
 go_simp
 refine (hS1'.out _ hHeld).mono ?_; rintro e w5 ⟨rfl, hb⟩
 refine hK.out _ _ (hHeld.trans (hb.mono hHeld.size)) (fun hHeld2 => ?_)
 clear hK K hHeld
 have hHeld := hHeld2
 clear hHeld2
 try simp only [Act.put,sA,sB,sC]
 refine takeH 2 ?_
 refine takeH 3 ?_
 refine takeH 4 ?_
 refine takeH 5 ?_
 refine oneL 6 rfl (by kernel_rfl) (fun K hK => ?_)
 go_simp
 refine (hS2'.out _ hHeld).mono ?_; rintro e w6 ⟨rfl, hb⟩
 refine hK.out _ _ (hHeld.trans (hb.mono hHeld.size)) (fun hHeld2 => ?_)
 clear hK K hHeld
 have hHeld := hHeld2
 clear hHeld2
 try simp only [Act.put,sA,sB,sC]
 refine takeH 7 ?_
 refine takeH 8 ?_
 refine takeH 9 ?_
 refine takeH 10 ?_
 refine takeH 11 ?_
 refine takeH 12 ?_
 refine takeH 13 ?_
 refine takeH 14 ?_
 refine takeH 15 ?_
 refine takeH 16 ?_
 refine takeH 17 ?_
 refine takeH 18 ?_
 refine takeH 19 ?_
 refine takeH 20 ?_
 refine takeH 21 ?_
 refine takeH 22 ?_
 refine takeH 23 ?_
 refine takeH 25 ?_
 refine takeH 26 ?_
 refine takeH 27 ?_
 refine takeH 28 ?_
 refine oneL 24 rfl (by kernel_rfl) (fun K hK => ?_)
 go_simp
 refine (hRo'.out _ hHeld).mono ?_; rintro e w7 ⟨rfl, hb⟩
 refine hK.out _ _ (hHeld.trans (hb.mono hHeld.size)) (fun hHeld2 => ?_)
 clear hK K hHeld
 have hHeld := hHeld2
 clear hHeld2
 try simp only [Act.put,sA,sB,sC]
 refine takeH 29 ?_
 refine takeH 30 ?_
 refine takeH 31 ?_
 refine wpAnyH_done (by kernel_rfl) ?_ _
 have hBe := hB2.trans (hHeld.mono hB2.size)
 go_wp2_with fail
 go_ret
 exact ⟨by first | rfl | simp, hBe⟩
end Go.Proofs.YtdmmbnnejbmdpaaGreatDoor
end
section
namespace Go.Proofs.YtdmmbnnejbmdpaaGreatDoor
open Go.Lib Go.RowKit Go.ChangeShapes Go.WideShapes Go.Deep Go.Shelf
theorem soundPlaces (s : Sk) (vT vY vE vF : Value) (w : World) (hw : Lw w) (hM : SkM w vT vY vE vF s) (hB : SkB s) :
 Calls Tryz.prog 5 #[skV s vT vY vE vF] w fun e w' => e = .returned (.bool true) ∧ Below w.heap.size w w' := by
 obtain ⟨AT, cT, AY, cY, AE, cE, AF, cF, rfl, rfl, rfl, rfl⟩ := hM.sl
 have hAw := lh (fun w1 (hb : Below w.heap.size w w1) => awake16 w1 (hw.keep hb))
 have hFe := lh (fun w1 => few16 s AT AY AE AF s.tiles.length cT s.types.length cY s.less.length cE s.fill.length cF w1 rfl rfl rfl rfl)
 have hSt := lh (fun w1 (hb : Below w.heap.size w w1) (hf : fewS s = true) => Stocked_any s _ _ _ _ w1 (hw.keep hb) (hM.keep hb) hB hf)
 have hgB := gvS_B hB
 obtain ⟨hg, hgN, hgat, hL1, hL3, hG1, hG8⟩ := gv_geo (gvS s)
 have hslen := stockL_len s
 have hNN : gvN (gvS s) = 10 + 73 * gvL (gvS s) + 33 * gvG (gvS s) := rfl
 have hGe := lh (fun w1 => show Calls Tryz.prog 22 #[.agg #[.int .u8 (s.a : Nat), .int .u8 (s.b : Nat), .slice none 0 0, .slice none 0 0, .slice none 0 0, .int .u64 0, .int .u64 0, .slice none 0 0]] w1 (fun e w' => e = .returned (.agg #[.int .i64 (gvN (gvS s) : Nat), .int .i64 (gvL (gvS s) : Nat)]) ∧ Below w1.heap.size w1 w') from
  geom_any { a := s.a, b := s.b, tiles := [], fill := [], items := [], root := 0, epoch := 0, spoil := [] } none none none none 0 0 0 0 0 0 0 0 w1 ⟨hB.a, hB.b, fun x hx => (by cases hx), fun x hx => (by cases hx), fun x hx => (by cases hx), (by show 0 < 18446744073709551616; decide), (by show 0 < 18446744073709551616; decide), fun x hx => (by cases hx)⟩)
 have hTb := lh (fun w1 => refTable_t (gvN (gvS s) : Nat) (gvL (gvS s) : Nat) w1 hg)
 rw [hgN] at hTb
 have hwk := lh (fun w1 (hb : Below w.heap.size w w1) => hw.keep hb)
 obtain ⟨X, hX⟩ : ∃ X, stockL s = X := ⟨_, rfl⟩
 obtain ⟨N, hN⟩ : ∃ N, gvN (gvS s) = N := ⟨_, rfl⟩
 obtain ⟨L, hL⟩ : ∃ L, gvL (gvS s) = L := ⟨_, rfl⟩
 obtain ⟨G, hG⟩ : ∃ G, gvG (gvS s) = G := ⟨_, rfl⟩
 rw [hX] at hSt hslen
 rw [hN] at hslen
 rw [hN, hL] at hGe hTb hg hgat
 rw [hN, hL, hG] at hNN
 rw [hG] at hTb hgat hG1 hG8
 rw [hL] at hL1 hL3
 have hN1 : 10 + 73 * L + 33 * G ≤ N := by omega
 have hN2 : N ≤ 10 + 73 * L + 33 * G := by omega
 clear hNN
 have hpb := lh (fun b (h : b ∈ blI X L) => plc_bd (I := X) (L := L) (by rw [hslen]; exact hg) h)
 have hPa := lh (fun (b : Bl) (hb : b ∈ blI X L) w1 => by
  have h := hpb.out b hb
  rw [hslen] at h
  exact place_any N L b.1 b.2.1 b.2.2 w1 hg h.1 (by omega) (by omega) (by omega))
 have hPb := lh (fun (b : Bl) (hb : b ∈ blI X L) w1 => by
  have h := hpb.out b hb
  rw [hslen] at h
  exact refPlace_any N L b.1 b.2.1 b.2.2 w1 hg h.1 (by omega) (by omega) (by omega))
 have hblen := bl_len (I := X) (L := L) (by rw [hslen]; exact hg)
 rw [hslen, hgat] at hblen
 have htl : (tabW X L).length = G := by rw [tab_len (by rw [hslen]; exact hg), hslen, hgat]
 obtain ⟨nT, hnT⟩ : ∃ n, s.tiles.length = n := ⟨_, rfl⟩
 obtain ⟨nY, hnY⟩ : ∃ n, s.types.length = n := ⟨_, rfl⟩
 obtain ⟨nE, hnE⟩ : ∃ n, s.less.length = n := ⟨_, rfl⟩
 obtain ⟨nF, hnF⟩ : ∃ n, s.fill.length = n := ⟨_, rfl⟩
 rw [hnT, hnY, hnE, hnF] at hFe hSt
 rw [hnT, hnY, hnE, hnF]
 unfold skV at hFe hSt ⊢
 replace hX := lh hX
 replace hN := lh hN
 replace hL := lh hL
 replace hG := lh hG
 replace htl := lh htl
 clear hM hB hw hgB hgN hpb
 have hb0 := bZ w (.cells #[.int .u8 (s.a : Nat), .int .u8 (s.b : Nat), .slice AT nT cT, .slice AY nY cY, .slice AE nE cE, .int .u32 (s.ep : Nat), .int .u8 (s.root : Nat), .slice AF nF cF] 27)
 have gS := HB.new w #[.int .u8 (s.a : Nat), .int .u8 (s.b : Nat), .slice AT nT cT, .slice AY nY cY, .slice AE nE cE, .int .u32 (s.ep : Nat), .int .u8 (s.root : Nat), .slice AF nF cF] 27
 obtain ⟨wb1, hwb1⟩ : ∃ x, w.alloc (.cells #[.int .u8 (s.a : Nat), .int .u8 (s.b : Nat), .slice AT nT cT, .slice AY nY cY, .slice AE nE cE, .int .u32 (s.ep : Nat), .int .u8 (s.root : Nat), .slice AF nF cF] 27) = x := ⟨_, rfl⟩
 have hswb1 : wb1.heap.size = w.heap.size + 1 := by rw [← hwb1]; simp
 rw [hwb1] at hb0 gS
 have hB : Below w.heap.size w wb1 := hb0
 clear hb0
 go_enter Tryz.func5, Tryz.ntmps5
 subst hwb1
 go_wp2_with fail
 refine (hAw.out _ hB).mono ?_
 rintro e w1 ⟨rfl, hb1⟩
 have hB1 := hB.trans (hb1.mono hB.size)
 have gS1 := gS.keep hb1
 clear hAw hb1 hB gS
 have p0 := (row_cell gS1 0).1
 have p1 := (row_cell gS1 1).1
 have p2 := (row_cell gS1 2).1
 have p3 := (row_cell gS1 3).1
 have p4 := (row_cell gS1 4).1
 have p5 := (row_cell gS1 5).1
 have p6 := (row_cell gS1 6).1
 have p7 := (row_cell gS1 7).1
 go_wp2_with fail
 refine (hFe.out _).mono ?_
 rintro e w2 ⟨rfl, hb2⟩
 have hB2 := hB1.trans (hb2.mono hB1.size)
 have gS2 := gS1.keep hb2
 clear p0 p1 p2 p3 p4 p5 p6 p7 hb2 hB1 gS1 hFe
 cases hfew : fewS s with
 | false =>
   go_wp2_with fail
   go_ret
   exact ⟨rfl, hB2⟩
 | true =>
   have hSt2 := hSt.out _ hB2 hfew
   clear hSt hfew
   have p0 := (row_cell gS2 0).1
   have p1 := (row_cell gS2 1).1
   have p2 := (row_cell gS2 2).1
   have p3 := (row_cell gS2 3).1
   have p4 := (row_cell gS2 4).1
   have p5 := (row_cell gS2 5).1
   have p6 := (row_cell gS2 6).1
   have p7 := (row_cell gS2 7).1
   go_wp2_with fail
   refine hSt2.mono ?_
   rintro e w3 ⟨v3, rfl, hO3, hW, hb3⟩
   have hB3 := hB2.trans (hb3.mono hB2.size)
   have gS3 := gS2.keep hb3
   obtain ⟨A3, c3, hv3, hf3⟩ := OwnU.form hO3
   rw [hslen] at hv3 hf3
   cases hv3
   obtain ⟨B, rfl, -, -⟩ := hf3 (by omega)
   have hk3 := hO3.kl
   have hc3 : N ≤ c3 := by
    obtain ⟨A9, c9, hv9, h9⟩ := hk3.form hslen
    cases hv9
    obtain ⟨_, _, _, h2, _⟩ := h9 w3 0 (Below.refl _ _) (by omega)
    exact h2
   clear p0 p1 p2 p3 p4 p5 p6 p7 hSt2 hb3 hf3 hO3 gS2 hB2
   have p0 := (row_cell gS3 0).1
   have p1 := (row_cell gS3 1).1
   go_wp2_with fail
   refine (hGe.out _).mono ?_
   rintro e w4 ⟨rfl, hb4⟩
   have hB4 := hB3.trans (hb4.mono hB3.size)
   have hk4 := hk3.keep hb4
   have e5 := bZ w4 (.cells #[.int .i64 (N : Nat), .int .i64 (L : Nat)] 51)
   have gG := HB.new w4 #[.int .i64 (N : Nat), .int .i64 (L : Nat)] 51
   obtain ⟨w5, hw5⟩ : ∃ x, w4.alloc (.cells #[.int .i64 (N : Nat), .int .i64 (L : Nat)] 51) = x := ⟨_, rfl⟩
   rw [hw5] at e5 gG
   obtain ⟨Gb, hGb⟩ : ∃ K, w4.heap.size = K := ⟨_, rfl⟩
   rw [hGb] at gG
   have hB5 := hB4.trans (e5.mono hB4.size)
   have hk5 := hk4.keep e5
   obtain ⟨g0, g1⟩ := gG.c2
   obtain ⟨F, hF⟩ : ∃ F, 10 + 73 * L = F := ⟨_, rfl⟩
   have hTb5 : Calls Tryz.prog 25 #[.agg #[.int .i64 (N : Nat), .int .i64 (L : Nat)]] w5 (fun e w' => e = .returned (.agg #[.int .i64 (F : Nat), .int .i64 (G : Nat)]) ∧ Below w5.heap.size w5 w') := by
    have h := hTb.out w5
    rw [show (10 + 73 * (L : Int)) = ((F : Nat) : Int) from by omega] at h
    exact h
   clear p0 p1 e5 hb4 hB4 hk4 hk3 hB3 gS3 hTb hGe
   subst hw5
   go_wp2_with fail
   refine hTb5.mono ?_
   rintro e w6 ⟨rfl, hb6⟩
   have hB6 := hB5.trans (hb6.mono hB5.size)
   have gG6 := gG.keep hb6
   have hk6 := hk5.keep hb6
   have hPart := part15_any B 0 N c3 F G w6 (by omega) hc3 (by omega) (by omega)
   clear g0 g1 hTb5 hb6 hB5 gG hk5
   go_wp2_with fail
   refine hPart.mono ?_
   rintro e w7 ⟨rfl, hb7⟩
   have hB7 := hB6.trans (hb7.mono hB6.size)
   have gG7 := gG6.keep hb7
   have hk7 := hk6.keep hb7
   have hkA : KL .u64 w7 (.slice (some ⟨B, F, none⟩) G (c3 - F)) (tabW X L) := by
    have h := KL.partC hk7 hslen F G (c3 - F) (by omega) (by omega)
    rw [Nat.zero_add] at h
    unfold tabW; rw [hslen, hgat, hF]; exact h
   have htW : WL (tabW X L) := fun x hx => hW.out x (by unfold tabW at hx; exact List.mem_of_mem_drop (List.mem_of_mem_take hx))
   have hBk := refBlocks_any _ (tabW X L) w7 (hwk.out _ hB7) hkA htW (by rw [htl.out]; omega)
   obtain ⟨R, hR⟩ : ∃ R, blI X L = R := ⟨_, rfl⟩
   rw [show blksT (tabW X L) = R from hR] at hBk
   rw [hR] at hPa hPb hblen
   obtain ⟨n, hn⟩ : ∃ n, R.length = n := ⟨_, rfl⟩
   have hn9 : n ≤ 1000 := by omega
   clear hPart hb7 hB6 gG6 hk6 hk7 hkA htW
   go_wp2_with fail
   refine hBk.mono ?_
   rintro e w8 ⟨v8, rfl, hO8, hb8⟩
   obtain ⟨A8, c8, rfl, -⟩ := BKO.formB hO8 hn
   have hB8 := hB7.trans (hb8.mono hB7.size)
   have gG8 := gG7.keep hb8
   replace hn := lh hn
   clear hBk hb8 hB7 gG7
   go_wp2_with fail
   go_loopw [8] (fun i wr => ∃ (j : Nat), j ≤ n ∧ i = .int .i64 (j : Nat) ∧ Below w8.heap.size w8 wr) (fun i _ => n + 1 - (intOf i).toNat)
   case atStart => exact ⟨0, Nat.zero_le _, rfl, Below.refl _ _⟩
   case round =>
    obtain ⟨j, hj, rfl, hBr⟩ := hrel
    by_cases hlt : j < n
    ·have hlt' : (j : Int) < (n : Int) := by omega
     have hm : R.getD j default ∈ R := by rw [List.getD_eq_getElem?_getD, List.getElem?_eq_getElem (by rw [hn.out]; exact hlt)]; exact List.getElem_mem _
     obtain ⟨A9, c9, hv9, hF9⟩ := BKO.formB (hO8.keep hBr) hn.out
     cases hv9
     obtain ⟨g5, o5, rfl, hc5, hg5, -, k0, k1, k2⟩ := hF9 wr j (Below.refl _ _) hlt
     have hPa1 := hPa.out _ hm
     have hPb1 := hPb.out _ hm
     generalize R.getD j default = b at *
     obtain ⟨bc, bj, bm⟩ := b
     simp only [] at k0 k1 k2 hPa1 hPb1
     generalize plc N L (bc, bj, bm) = p at *
     replace hPa1 := lh hPa1
     replace hPb1 := lh hPb1
     have gGr := gG8.keep hBr
     have hCF := lh (fun w' (hb : Below wr.heap.size wr w') => show w'.cell? ⟨Gb, 0, none⟩ = some (.int .i64 (N : Nat)) ∧ w'.cell? ⟨Gb, 1, none⟩ = some (.int .i64 (L : Nat)) ∧ w'.cell? ⟨g5, o5 + j * 3, none⟩ = some (.int .i64 (bc : Nat)) ∧ w'.cell? ⟨g5, o5 + j * 3 + 1, none⟩ = some (.int .i64 (bj : Nat)) ∧ w'.cell? ⟨g5, o5 + j * 3 + 2, none⟩ = some (.int .i64 (bm : Nat)) from
      ⟨(gGr.keep hb).c2.1, (gGr.keep hb).c2.2, by rw [(bcell hb).1 _ _ hg5]; exact k0, by rw [(bcell hb).1 _ _ hg5]; exact k1, by rw [(bcell hb).1 _ _ hg5]; exact k2⟩)
     clear hF9 k0 k1 k2 hm
     go_wp2_with fail
     refine wp_region_held_drew (S := (fun w' => Below wr.heap.size wr w')) (by kernel_rfl) (Below.refl _ _).drew (fun hHeld => ?_)
     refine takeH 0 ?_
     refine takeH 1 ?_
     refine takeH 2 ?_
     refine takeH 3 ?_
     refine takeH 4 ?_
     refine takeH 6 ?_
     refine takeH 7 ?_
     refine takeH 8 ?_
     refine takeH 9 ?_
     refine takeH 10 ?_
     refine oneL 5 rfl (by kernel_rfl) (fun K hK => ?_)
     go_simp
     refine (hPa1.out _).mono ?_; rintro e w9 ⟨rfl, hb⟩
     refine hK.out _ _ (hHeld.trans (hb.mono hHeld.size)) (fun hHeld2 => ?_)
     clear hK K hHeld
     have hHeld := hHeld2
     clear hHeld2
     try simp only [Act.put,sA,sB,sC]
     refine oneL 11 rfl (by kernel_rfl) (fun K hK => ?_)
     go_simp
     refine (hPb1.out _).mono ?_; rintro e w10 ⟨rfl, hb⟩
     refine hK.out _ _ (hHeld.trans (hb.mono hHeld.size)) (fun hHeld2 => ?_)
     clear hK K hHeld
     have hHeld := hHeld2
     clear hHeld2
     try simp only [Act.put,sA,sB,sC]
     refine takeH 12 ?_
     refine wpAnyH_done (by kernel_rfl) ?_ _
     have hBz := hBr.trans (hHeld.mono hBr.size)
     clear hCF hHeld gGr
     go_wp2_with fail
     go_roundw
     case rel => exact ⟨j + 1, by omega, by go_num, hBz⟩
     case measure => first | (simp [intOf]; done) | (simp [intOf]; omega)
    ·obtain rfl : n = j := by omega
     have hlt' : ¬ (n : Int) < (n : Int) := by omega
     have hBe := hB8.trans (hBr.mono hB8.size)
     go_wp2_with fail
     go_ret
     exact ⟨rfl, hBe⟩
end Go.Proofs.YtdmmbnnejbmdpaaGreatDoor
end
section
namespace Go.Proofs.YtdmmbnnejbmdpaaGreatDoor
open Go.RowKit Go.ChangeShapes Go.WideShapes Go.Deep
def BL9 (l : List Nat) : Prop := ∀ x ∈ l, x < 256
theorem bytes_open9 {H : Type} {enc : TypeId × Value → H} {P : Program} {W : World} {t e : TypeId} (ht : P.underlying t = some (.slice e)) (he : P.underlying e = some (.int .u8)) (hc : P.cellsOf e = 1) {ad : Option Addr} {len cap : Nat} {d : DataW H} {p : List MemPlace}
 (h : DataW.Trod enc P W 0 (fun _ => true) true t (.slice ad len cap) d p) : ∃ l : List Nat, BL9 l ∧ KL .u8 W (.slice ad len cap) l := by
 obtain ⟨fuel, hf⟩ := h
 rcases open_ints ht he hc hf with ⟨hcs, _⟩ | ⟨a, len', cap', zs, hcs, _, hl, hm, hz, _, hcell, hwz⟩
 ·simp [Value.cells] at hcs
  obtain ⟨rfl, rfl, rfl⟩ := hcs
  exact ⟨[], fun x hx => by simp at hx, none, 0, rfl, fun h => by simp at h⟩
 ·simp [Value.cells] at hcs
  obtain ⟨rfl, rfl, rfl⟩ := hcs
  simp only [if_true] at hz
  have hb : ∀ z ∈ zs, 0 ≤ z ∧ z ≤ 255 := fun z hz => bounds_u8 (hwz z hz)
  have hlen : ((zs.take len).map Int.toNat).length = len := by simp; omega
  refine ⟨(zs.take len).map Int.toNat, fun x hx => ?_, some a, cap, by rw [hlen], fun h0 => ?_⟩
  ·obtain ⟨z, hz1, rfl⟩ := List.mem_map.1 hx
   have := hb z (List.mem_of_mem_take hz1)
   omega
  ·rw [hlen] at h0 ⊢
   have hc0 := hcell 0 (by omega)
   have hsp : a.spot = none := by
    have := spot_none hc0
    unfold Addr.add at this
    simpa using this
   obtain ⟨g, off, sp⟩ := a
   simp only at hsp
   subst hsp
   refine ⟨g, off, rfl, ?_, by omega, fun i hil => ?_⟩
   ·have := World.block_lt_of_cell? _ _ hc0
    simpa [add_plain] using this
   ·have := hcell i (by omega)
    rw [add_plain] at this
    rw [this]
    have hzi : i < zs.length := by omega
    have e1 : ((zs.take len).map Int.toNat).getD i 0 = (zs[i]).toNat := by
     rw [List.getD_eq_getElem?_getD, List.getElem?_map, List.getElem?_take, if_pos hil, List.getElem?_eq_getElem hzi]
     rfl
    have e2 : zs.getD i 0 = zs[i] := by rw [List.getD_eq_getElem?_getD, List.getElem?_eq_getElem hzi]; rfl
    rw [e1, e2, Int.toNat_of_nonneg (hb _ (List.getElem_mem hzi)).1]
abbrev Sx := (Value × Value × Value × Value) × Sk
def SOk (W : World) (g : Sx) : Prop := SkM W g.1.1 g.1.2.1 g.1.2.2.1 g.1.2.2.2 g.2 ∧ SkB g.2
def sxV (g : Sx) : Value := skV g.2 g.1.1 g.1.2.1 g.1.2.2.1 g.1.2.2.2
theorem stock_open {H : Type} {enc : TypeId × Value → H} {W : World} {r : Reach} {b1 : Nat} {v : Value} {d : DataW H} {p : List MemPlace} (hv : Value.okWide Tryz.prog W r b1 27 v) (h : DataW.Trod enc Tryz.prog W 0 (fun _ => true) true 27 v d p) :
 ∃ g : Sx, SOk W g ∧ v = sxV g := by
 obtain ⟨cs, rfl, hsz⟩ := okWide_struct Tryz.underlying27 hv
 obtain ⟨fuel, h⟩ := h
 rw [show Tryz.prog.cellsOf 27 = 8 by kernel_rfl] at hsz
 obtain ⟨xs, n, _, _, _, hxl, hf⟩ := DataW.trod_struct Tryz.underlying27 h
 have hl : (Value.agg cs).cells.toList.length = 8 := by simpa [Value.cells] using hsz
 have hcs : (Value.agg cs).cells.toList = cs.toList := rfl
 rw [hcs] at hf hl
 obtain ⟨ls, hls⟩ : ∃ ls, cs.toList = ls := ⟨_, rfl⟩
 rw [hls] at hf hl
 match xs, hxl, ls, hl, hls with
 | [y0, y1, y2, y3, y4, y5, y6, y7], _, [u0, u1, u2, u3, u4, u5, u6, u7], _, hls =>
   have g0 : DataW.trod enc Tryz.prog W 0 (fun _ => true) true n 5 ((([u0, u1, u2, u3, u4, u5, u6, u7] : List Value).drop 0).take (Tryz.prog.cellsOf 5)) = some y0 := hf 0 _ rfl
   rw [show Tryz.prog.cellsOf 5 = 1 by kernel_rfl] at g0
   have g1 : DataW.trod enc Tryz.prog W 0 (fun _ => true) true n 5 ((([u0, u1, u2, u3, u4, u5, u6, u7] : List Value).drop 1).take (Tryz.prog.cellsOf 5)) = some y1 := hf 1 _ rfl
   rw [show Tryz.prog.cellsOf 5 = 1 by kernel_rfl] at g1
   have g2 : DataW.trod enc Tryz.prog W 0 (fun _ => true) true n 22 ((([u0, u1, u2, u3, u4, u5, u6, u7] : List Value).drop 2).take (Tryz.prog.cellsOf 22)) = some y2 := hf 2 _ rfl
   rw [show Tryz.prog.cellsOf 22 = 1 by kernel_rfl] at g2
   have g3 : DataW.trod enc Tryz.prog W 0 (fun _ => true) true n 23 ((([u0, u1, u2, u3, u4, u5, u6, u7] : List Value).drop 3).take (Tryz.prog.cellsOf 23)) = some y3 := hf 3 _ rfl
   rw [show Tryz.prog.cellsOf 23 = 1 by kernel_rfl] at g3
   have g4 : DataW.trod enc Tryz.prog W 0 (fun _ => true) true n 23 ((([u0, u1, u2, u3, u4, u5, u6, u7] : List Value).drop 4).take (Tryz.prog.cellsOf 23)) = some y4 := hf 4 _ rfl
   rw [show Tryz.prog.cellsOf 23 = 1 by kernel_rfl] at g4
   have g5 : DataW.trod enc Tryz.prog W 0 (fun _ => true) true n 24 ((([u0, u1, u2, u3, u4, u5, u6, u7] : List Value).drop 5).take (Tryz.prog.cellsOf 24)) = some y5 := hf 5 _ rfl
   rw [show Tryz.prog.cellsOf 24 = 1 by kernel_rfl] at g5
   have g6 : DataW.trod enc Tryz.prog W 0 (fun _ => true) true n 5 ((([u0, u1, u2, u3, u4, u5, u6, u7] : List Value).drop 6).take (Tryz.prog.cellsOf 5)) = some y6 := hf 6 _ rfl
   rw [show Tryz.prog.cellsOf 5 = 1 by kernel_rfl] at g6
   have g7 : DataW.trod enc Tryz.prog W 0 (fun _ => true) true n 25 ((([u0, u1, u2, u3, u4, u5, u6, u7] : List Value).drop 7).take (Tryz.prog.cellsOf 25)) = some y7 := hf 7 _ rfl
   rw [show Tryz.prog.cellsOf 25 = 1 by kernel_rfl] at g7
   obtain ⟨a0, e0, _, w0⟩ := DataW.trod_int Tryz.underlying5 g0
   simp at e0
   subst e0
   have b0 := bounds_u8 w0
   obtain ⟨n0, rfl⟩ := Int.eq_ofNat_of_zero_le (show 0 ≤ a0 by omega)
   obtain ⟨a1, e1, _, w1⟩ := DataW.trod_int Tryz.underlying5 g1
   simp at e1
   subst e1
   have b1 := bounds_u8 w1
   obtain ⟨n1, rfl⟩ := Int.eq_ofNat_of_zero_le (show 0 ≤ a1 by omega)
   obtain ⟨A2, l2, c2, rfl, T2⟩ := sl_cell Tryz.underlying22 g2
   obtain ⟨A3, l3, c3, rfl, T3⟩ := sl_cell Tryz.underlying23 g3
   obtain ⟨A4, l4, c4, rfl, T4⟩ := sl_cell Tryz.underlying23 g4
   obtain ⟨a5, e5, _, w5⟩ := DataW.trod_int Tryz.underlying24 g5
   simp at e5
   subst e5
   have b5 := bounds_u32 w5
   obtain ⟨n5, rfl⟩ := Int.eq_ofNat_of_zero_le (show 0 ≤ a5 by omega)
   obtain ⟨a6, e6, _, w6⟩ := DataW.trod_int Tryz.underlying5 g6
   simp at e6
   subst e6
   have b6 := bounds_u8 w6
   obtain ⟨n6, rfl⟩ := Int.eq_ofNat_of_zero_le (show 0 ≤ a6 by omega)
   obtain ⟨A7, l7, c7, rfl, T7⟩ := sl_cell Tryz.underlying25 g7
   obtain ⟨lt, ht, kt⟩ := halves_open Tryz.underlying22 Tryz.underlying32 (by kernel_rfl) T2
   obtain ⟨ly, hy, ky⟩ := bytes_open9 Tryz.underlying23 Tryz.underlying5 (by kernel_rfl) T3
   obtain ⟨le, he, ke⟩ := bytes_open9 Tryz.underlying23 Tryz.underlying5 (by kernel_rfl) T4
   obtain ⟨lf, hf2, kf⟩ := wordsK_open Tryz.underlying25 Tryz.underlying33 (by kernel_rfl) T7
   refine ⟨((.slice A2 l2 c2, .slice A3 l3 c3, .slice A4 l4 c4, .slice A7 l7 c7), ⟨n0, n1, lt, ly, le, n5, n6, lf⟩), ⟨⟨kt, ky, ke, kf⟩, ⟨by simp only []; omega, by simp only []; omega, ht, fun x hx => hy x hx, fun x hx => he x hx, by simp only []; omega, by simp only []; omega, hf2⟩⟩, ?_⟩
   show Value.agg cs = Value.agg _
   congr 1
   rw [← Array.toList_inj, hls]
end Go.Proofs.YtdmmbnnejbmdpaaGreatDoor
end
