/-
  Part of the proof of JournalUndo.
-/
import Derived.Test.YtkkbngcgphlikaaGreatDoorJu33
import Derived.Test.YtkkbngcgphlikaaGreatDoorJu0
set_option maxRecDepth 10000
set_option maxHeartbeats 4000000
set_option linter.unusedVariables false
set_option linter.unusedSimpArgs false
namespace Go.Proofs.YtkkbngcgphlikaaGreatDoor
open Go.Lib Go.RowKit Go.ChangeShapes Go.WideShapes Go.Deep Go.Shelf
def stoR (s : Dv) (room : List Sp) (ws : List Nat) (k : Nat) : Dv := (List.range k).foldl (fun s i => storeD s (atL room (i : Nat)) (ws.getD i 0)) s
theorem stoR_succ (s : Dv) (room : List Sp) (ws : List Nat) (k : Nat) : stoR s room ws (k + 1) = storeD (stoR s room ws k) (atL room (k : Nat)) (ws.getD k 0) := by
 unfold stoR
 rw [List.range_succ, List.foldl_append]
 rfl
theorem GoodJ.stoR {N : Nat} {s : Dv} {m : Nat} (h : GoodJ s N m) (room : List Sp) (ws : List Nat) : ∀ k, GoodJ (stoR s room ws k) N (m + k)
 | 0 => h
 | k + 1 => by
   rw [stoR_succ]
   exact (GoodJ.stoR h room ws k).store _ _
def roomJ (s : Dv) (N L ln m : Nat) : List Sp := cutL (logP (viewD s) (N : Nat) (L : Nat) (ln : Nat)) ((curC (loadD s (10 + (ln : Int))) : Nat), ((m + 2 : Nat) : Int))
def noteD (s : Dv) (N L ln A m : Nat) : Dv :=
 layD (fenceL (stoR s (roomJ s N L ln m) (noteL (viewD s) (curG (loadD s (10 + (ln : Int)))) A m) (m + 2)) (roomJ s N L ln m)) (10 + (ln : Int))
  (1 + (curC (loadD s (10 + (ln : Int))) + (m + 2)) * 4 + curG (loadD s (10 + (ln : Int))) * 65536)
theorem okB_1c {c g : Nat} (hc : c ≤ 16383) (h : g ≤ 281474976710655) : okB ((1 : Nat) : Int) ((c : Nat) : Int) ((g : Nat) : Int) = true := by
 unfold okB; simp; omega
theorem jNote_ok (B : Nat) (F : Nat → Prop) (s : Dv) (N L ln : Nat) (A m : Nat) (w : World) (hw : Lw w) (h : DvAt w B F s) (k0 : Nat) (hgJ : GoodJ s N k0) (hN1 : 1 ≤ N) (hln : ln ≤ 1000) (hlk : lOk (N : Nat) (L : Nat) (ln : Nat) = true) (hxb : loadD s (10 + (ln : Int)) < 18446744073709551616) (hW : WL (viewD s)) (h40 : poolB (viewD s) = true → LgN (viewD s) ((viewD s).getD 3 0)) (hN2 : N ≤ 1000) (hm1 : 1 ≤ m) (hm8 : m ≤ 800) (hAm : A + m ≤ N) (hi1 : inB N L (A : Nat) = true) (hi2 : inB N L ((A : Nat) + (m : Nat) - 1) = true) (hno : curS (loadD s (10 + (ln : Int))) = 1) (hf1 : ((curC (loadD s (10 + (ln : Int))) + (m + 2) : Nat) : Int) ≤ totS (logP (viewD s) (N : Nat) (L : Nat) (ln : Nat))) (hf2 : curC (loadD s (10 + (ln : Int))) + (m + 2) ≤ 16383) (hbd : k0 + (m + 2) + (roomJ s N L ln m).length * N + 1 + N + 2 ≤ 100000) (hPS : PS (roomJ s N L ln m)) :
 Calls Tryz.prog 34 #[.pointer (some ⟨B, 0, none⟩), .agg #[.int .i64 (N : Nat), .int .i64 (L : Nat)], .int .i64 (ln : Nat), .agg #[.int .i64 (A : Nat), .int .i64 (m : Nat)]] w fun e w' => e = .returned (.int .i64 0) ∧ DvAt w' B F (noteD s N L ln A m) ∧ Chg F w w' := by
 have hg := hgJ.good hN1 hN2 (by omega)
 have hDv := lh (fun w1 (q : Below w.heap.size w w1) => h.keep q)
 have hlt := lh h.lt
 obtain ⟨room, hroom⟩ : ∃ z, roomJ s N L ln m = z := ⟨_, rfl⟩
 have hrm0 := hroom
 unfold roomJ at hrm0
 unfold noteD
 rw [hroom] at hbd hPS ⊢
 have hgk := (lOk_t hlk).1
 obtain ⟨hPB, hPl⟩ := logP_PB (I := viewD s) (ln := ln) hgk hN2
 have hgxb := curG_le hxb
 have hcxb := curC_le (loadD s (10 + (ln : Int)))
 have hVw := lh (fun w1 (q : Below w.heap.size w w1) => jView B F s w1 (h.keep q) hg)
 have hLg := lh (fun v1 w1 (q : Below w.heap.size w w1) (k : KL .u64 w1 v1 (viewD s)) => log_any v1 (viewD s) (N : Nat) (L : Nat) (ln : Nat) w1 (hw.keep q) hW k h40)
 have hgl := gath1_len (viewD s) hN2 hAm
 have hgw := gath_WL hW [((A : Int), (m : Int))]
 have hnl := noteL_len (viewD s) (g := curG (loadD s (10 + (ln : Int)))) hN2 hAm
 have hGa := lh (fun v u w1 (hv : KL .u64 w1 v (viewD s)) (hu : PL w1 u [((A : Int), (m : Int))]) => gather_any v u (viewD s) [((A : Int), (m : Int))] w1 (PBs_one hN2 hAm) (by simp) hv hu)
 have hEn := lh (fun v w1 (hv : KL .u64 w1 v (gathL (viewD s) [((A : Int), (m : Int))])) => Encode_new (curG (loadD s (10 + (ln : Int)))) ((A : Int), v, gathL (viewD s) [((A : Int), (m : Int))]) w1 (by omega) hv hgw (by simp only []; omega) (by unfold rightB; rw [canB_iff]; simp only []; omega))
 simp only [Int.toNat_natCast] at hEn
 change Hid (∀ v w1, KL .u64 w1 v (gathL (viewD s) [((A : Int), (m : Int))]) → Calls Tryz.prog 93 #[.int .u64 (curG (loadD s (10 + (ln : Int))) : Nat), .agg #[.int .i64 (A : Nat), v]] w1 fun e w' => ∃ v, e = .returned (.tuple #[v, .int .i64 0]) ∧ KL .u64 w' v (noteL (viewD s) (curG (loadD s (10 + (ln : Int)))) A m) ∧ (∀ k, v.ownBlock = some k → w1.heap.size ≤ k) ∧ Below w1.heap.size w1 w') at hEn
 obtain ⟨ws, hws⟩ : ∃ z, noteL (viewD s) (curG (loadD s (10 + (ln : Int)))) A m = z := ⟨_, rfl⟩
 obtain ⟨old, hold⟩ : ∃ z, gathL (viewD s) [((A : Int), (m : Int))] = z := ⟨_, rfl⟩
 obtain ⟨P, hP⟩ : ∃ P, logP (viewD s) (N : Nat) (L : Nat) (ln : Nat) = P := ⟨_, rfl⟩
 obtain ⟨I, hI⟩ : ∃ I, viewD s = I := ⟨_, rfl⟩
 rw [hws] at hnl
 rw [hold, hws] at hEn
 rw [hold] at hGa hgl
 rw [hP] at hPB hPl hLg
 rw [hI] at hVw hLg hGa
 have hTo := lh (fun v w1 (hv : PL w1 v P) => total_any v P w1 hPB.sbs hPl hv)
 obtain ⟨nP, hnP⟩ : ∃ n, P.length = n := ⟨_, rfl⟩
 rw [hnP] at hPl
 obtain ⟨x, hx⟩ : ∃ x, loadD s (10 + (ln : Int)) = x := ⟨_, rfl⟩
 have hCu := lh (fun w1 (q : Below w.heap.size w w1) => jCurrent B F s N L ln w1 (h.keep q) hg hlk hxb)
 rw [hI] at hws hP
 have hIn := lh (fun a w1 => jInChunks N L a w1 hgk)
 rw [hI, hx] at hrm0 ⊢
 rw [hx] at hCu hno hgxb hEn hf1 hf2 hcxb hws
 rw [hI] at hf1
 obtain ⟨sx, hsx⟩ : ∃ a, curS x = a := ⟨_, rfl⟩
 obtain ⟨cx, hcx⟩ : ∃ a, curC x = a := ⟨_, rfl⟩
 obtain ⟨gx, hgx⟩ : ∃ a, curG x = a := ⟨_, rfl⟩
 rw [hsx] at hno
 rw [hsx, hcx, hgx] at hCu
 rw [hgx] at hgxb hEn hws ⊢
 rw [hcx] at hf1 hf2 hcxb hrm0 ⊢
 rw [hP] at hf1 hrm0
 rw [hws]
 obtain ⟨hPBr, hlr⟩ := cut_pb ((cx : Nat), ((m + 2 : Nat) : Int)) hPB
 have hCt := lh (fun v w1 (hv : PL w1 v P) => cut_any v P ((cx : Nat), ((m + 2 : Nat) : Int)) w1 hPB (by rw [hnP]; exact hPl) (by simp only []; omega) (by simp only []; omega) (by simp only []; omega) (by simp only []; omega) hv)
 rw [hrm0] at hPBr hlr hCt
 simp only [] at hCt
 obtain ⟨nr, hnr⟩ : ∃ n, room.length = n := ⟨_, rfl⟩
 have hlr9 : room.length ≤ 1000 := by omega
 have hAto := lh (fun (i : Int) (h1 : -2199023255552 ≤ i) (h2 : i ≤ 2199023255552) v w1 (hv : PL w1 v room) => at_any v room i w1 hPBr hlr9 h1 h2 hv)
 have hGs := lh (fun k (hk : k ≤ m + 2) => (GoodJ.stoR hgJ room ws k).good hN1 hN2 (by omega))
 have hFe := lh (fun (v9 : Value) w1 (q : DvAt w1 B F (stoR s room ws (m + 2))) (hP : ∀ w', Chg F w1 w' → PL w' v9 room) => jFence B F (stoR s room ws (m + 2)) N (k0 + (m + 2)) v9 room w1 q (GoodJ.stoR hgJ room ws (m + 2)) hN1 hN2 (by omega) hP hPS (by omega))
 have hLm := lh (fun w1 (q : DvAt w1 B F (fenceL (stoR s room ws (m + 2)) room)) => jLayMark B F (fenceL (stoR s room ws (m + 2)) room) N L ln (k0 + (m + 2) + room.length * N + 1) 1 (cx + (m + 2)) gx w1 q (GoodJ.fences hN1 room (GoodJ.stoR hgJ room ws (m + 2))) hN1 hN2 (by omega) hlk hln (okB_1c hf2 hgxb) (by omega))
 clear hx hsx hcx hgx hgw hw hW h40 hws hold hI hP h hg hlk hxb hgk hgJ hroom hrm0 hbd hPS
 subst hno
 have hb0 := bZ w (.cells #[.int .i64 (N : Nat), .int .i64 (L : Nat)] 37)
 have gG := HB.new w #[.int .i64 (N : Nat), .int .i64 (L : Nat)] 37
 obtain ⟨wb1, hwb1⟩ : ∃ x, w.alloc (.cells #[.int .i64 (N : Nat), .int .i64 (L : Nat)] 37) = x := ⟨_, rfl⟩
 have hswb1 : wb1.heap.size = w.heap.size + 1 := by rw [← hwb1]; simp
 rw [hwb1] at hb0 gG
 have hB : Below w.heap.size w wb1 := hb0
 have hb1 := bZ wb1 (.cells #[.int .i64 (A : Nat), .int .i64 (m : Nat)] 70)
 have gS := HB.new wb1 #[.int .i64 (A : Nat), .int .i64 (m : Nat)] 70
 obtain ⟨wb2, hwb2⟩ : ∃ x, wb1.alloc (.cells #[.int .i64 (A : Nat), .int .i64 (m : Nat)] 70) = x := ⟨_, rfl⟩
 have hswb2 : wb2.heap.size = w.heap.size + 2 := by rw [← hwb2]; simp; omega
 rw [hwb2] at hb1 gS
 rw [hswb1] at gS
 replace gG := gG.keep hb1
 replace hB := hB.trans (hb1.mono (by omega))
 obtain ⟨C, hC⟩ : ∃ C, w.heap.size = C := ⟨_, rfl⟩
 rw [hC] at gG gS hswb1 hswb2
 clear hb0 hb1
 go_enter Tryz.func34, Tryz.ntmps34
 obtain ⟨r0, r1⟩ := gG.c2
 go_wp2_with fail
 refine (hCu.out _ hB).mono ?_
 rintro e w1 ⟨rfl, hb1⟩
 clear r0 r1
 have eM := bZ w1 (.cells #[.int .i64 1, .int .i64 (cx : Nat), .int .u64 (gx : Nat)] 123)
 have gM := HB.new w1 #[.int .i64 1, .int .i64 (cx : Nat), .int .u64 (gx : Nat)] 123
 have gG2 := (gG.keep hb1).keep eM
 have gS2 := (gS.keep hb1).keep eM
 have hB2 := (hB.trans (hb1.mono hB.size)).trans (eM.mono (hB.trans (hb1.mono hB.size)).size)
 obtain ⟨m0, n0⟩ := row_cell gM 0
 obtain ⟨m1, n1⟩ := row_cell gM 1
 obtain ⟨m2, n2⟩ := row_cell gM 2
 obtain ⟨r0, r1⟩ := gG2.c2
 obtain ⟨q0, q1⟩ := gS2.c2
 have hlm2 : C + 2 ≤ w1.heap.size := by have := hb1.size; omega
 have hlm1 := (hB.trans (hb1.mono hB.size)).size
 clear gG gS hCu hb1 eM
 have ia : inB N L (A : Nat) = true := hi1
 have ib : inB N L ((A : Nat) + (m : Nat) - 1) = true := hi2
 have h1' : ¬ ((m : Int) < 1) := by omega
 have h2' : ¬ (4096 < (m : Int)) := by omega
 have w1' : IntKind.i64.wrap ((A : Int) + (m : Int)) = (A : Int) + (m : Int) := (by rw [IntKind.wrap_i64]; omega)
 have w2' : IntKind.i64.wrap ((A : Int) + (m : Int) - 1) = (A : Int) + (m : Int) - 1 := (by rw [IntKind.wrap_i64]; omega)
 have hI1 := hIn.out (A : Nat)
 have hI2 := hIn.out ((A : Nat) + (m : Nat) - 1)
 rw [ia] at hI1
 rw [ib] at hI2
 replace hI1 := lh hI1
 replace hI2 := lh hI2
 clear hIn ia ib hi1 hi2
 go_wp2_with fail
 refine (hI1.out _).mono ?_
 rintro e w3 ⟨rfl, hb3⟩
 have hB3 := hB2.trans (hb3.mono hB2.size)
 have gM3 := gM.keep hb3
 have gS3 := gS2.keep hb3
 have gG3 := gG2.keep hb3
 obtain ⟨q2, q3⟩ := gS3.c2
 obtain ⟨r2, r3⟩ := gG3.c2
 clear hI1 hB2 gM gS2 gG2 hb3 m0 m1 m2 n0 n1 n2 r0 r1 q0 q1
 go_wp2_with fail
 refine (hI2.out _).mono ?_
 rintro e w4 ⟨rfl, hb4⟩
 have hB4 := hB3.trans (hb4.mono hB3.size)
 have gM4 := gM3.keep hb4
 have gS4 := gS3.keep hb4
 have gG4 := gG3.keep hb4
 clear hI2 hB3 gM3 gS3 gG3 hb4 q2 q3 r2 r3
 go_wp2_with fail
 refine (hVw.out _ hB4).mono ?_
 rintro e w5 ⟨v5, rfl, hO5, hb5⟩
 have hB5 := hB4.trans (hb5.mono hB4.size)
 have gM5 := gM4.keep hb5
 have gS5 := gS4.keep hb5
 have gG5 := gG4.keep hb5
 have hK5 := hO5.kl
 clear hVw hB4 gM4 gS4 gG4 hb5 hO5
 obtain ⟨M, hM⟩ : ∃ M, w1.heap.size = M := ⟨_, rfl⟩
 rw [hM] at gM5 hlm1 hlm2
 have hM5 := gM5.lt
 go_wp2_with fail
 have hCF := lh (fun w' (hb : Below w5.heap.size w5 w') => show (w'.cell? ⟨M, 0, none⟩ = some (.int .i64 1) ∧ w'.cell? ⟨M, 1, none⟩ = some (.int .i64 (cx : Nat)) ∧ w'.cell? ⟨M, 2, none⟩ = some (.int .u64 (gx : Nat))) ∧ w'.cell? ⟨C + 1, 0, none⟩ = some (.int .i64 (A : Nat)) ∧ w'.cell? ⟨C + 1, 1, none⟩ = some (.int .i64 (m : Nat)) from
  ⟨⟨(row_cell (gM5.keep hb) 0).1, (row_cell (gM5.keep hb) 1).1, (row_cell (gM5.keep hb) 2).1⟩, (gS5.keep hb).c2⟩)
 refine wp_region_held_drew (S := (fun w' => Below w5.heap.size w5 w')) (by kernel_rfl) (Below.refl _ _).drew (fun hHeld => ?_)
 refine takeH 0 ?_
 refine takeH 1 ?_
 refine takeH 2 ?_
 refine takeH 3 ?_
 refine takeH 4 ?_
 refine takeH 5 ?_
 refine oneL 6 rfl (by kernel_rfl) (fun K hK => ?_)
 go_simp
 have hb := bZ w5.drew (.cells #[.int .i64 (A : Nat), .int .i64 (m : Nat)] (70 : Nat))
 have hl5 : PL (w5.drew.alloc (.cells #[.int .i64 (A : Nat), .int .i64 (m : Nat)] (70 : Nat))) (.slice (some ⟨w5.drew.heap.size, 0, none⟩) 1 1) [((A : Int), (m : Int))] := PL.lit w5.drew [((A : Int), (m : Int))] (by simp)
 refine hK.out _ _ (hHeld.trans (hb.mono hHeld.size)) (fun hHeld2 => ?_)
 clear hK K hHeld
 have hHeld := hHeld2
 clear hHeld2
 try simp only [Act.put,sA,sB,sC]
 refine oneL 7 rfl (by kernel_rfl) (fun K hK => ?_)
 go_simp
 refine (hGa.out _ _ _ (hK5.keep hHeld) hl5).mono ?_
 rintro e w6 ⟨v6, rfl, hO6, hb⟩
 obtain ⟨A6, c6, rfl, -⟩ := hO6.kl.form hgl
 refine hK.out _ _ (hHeld.trans (hb.mono hHeld.size)) (fun hHeld2 => ?_)
 clear hK K hHeld
 have hHeld := hHeld2
 clear hHeld2
 try simp only [Act.put,sA,sB,sC]
 refine takeH 8 ?_
 refine oneL 9 rfl (by kernel_rfl) (fun K hK => ?_)
 go_simp
 refine (hEn.out _ _ hO6.kl).mono ?_
 rintro e w7 ⟨v7, rfl, hK7, hn7, hb⟩
 have hn7' := fun k (q : v7.ownBlock = some k) => Nat.le_trans hHeld.size (hn7 k q)
 refine hK.out _ _ (hHeld.trans (hb.mono hHeld.size)) (fun hHeld2 => ?_)
 clear hK K hHeld
 have hHeld := hHeld2
 clear hHeld2
 try simp only [Act.put,sA,sB,sC]
 refine takeH 10 ?_
 refine takeH 11 ?_
 refine takeH 12 ?_
 refine takeH 13 ?_
 refine takeH 14 ?_
 refine wpAnyH_done (by kernel_rfl) ?_ _
 obtain ⟨A7, c7, rfl, -⟩ := hK7.form hnl
 have hB7 := hB5.trans (hHeld.mono hB5.size)
 have gM7 := gM5.keep hHeld
 have gG7 := gG5.keep hHeld
 have hK57 := hK5.keep hHeld
 clear hCF hGa hEn hK5 gM5 gS5 gG5 hl5 hO6 hb
 obtain ⟨m7, o7⟩ := row_cell gM7 1
 obtain ⟨r0, r1⟩ := gG7.c2
 go_wp2_with fail
 refine (hLg.out _ _ hB7 hK57).mono ?_
 rintro e w8 ⟨v8, rfl, hO8, hb8⟩
 obtain ⟨A8, c8, rfl, -⟩ := hO8.pl.form hnP
 have hB8 := hB7.trans (hb8.mono hB7.size)
 have gM8 := gM7.keep hb8
 have gG8 := gG7.keep hb8
 have hK8 := hK7.keep hb8
 have hP8 := hO8.pl
 have hOP9 := hO8.chg (Chg.setCell (S := fun j => j = M) w8 M 1 (.int .i64 ((cx + (m + 2) : Nat) : Int)) rfl) (fun k e z => by have h1 := (hO8.lt k e).1; have h2 := gM7.lt; omega)
 have hlM : w.heap.size ≤ M := hlm1
 obtain ⟨m8, o8⟩ := row_cell gM8 1
 have w3' : IntKind.i64.wrap ((cx : Int) + ((m + 2 : Nat) : Int)) = ((cx + (m + 2) : Nat) : Int) := (by rw [IntKind.wrap_i64]; omega)
 have hKf := hK8.far (Chg.setCell (S := fun j => j = M) w8 M 1 (.int .i64 ((cx + (m + 2) : Nat) : Int)) rfl) (fun k e z => by have h1 := hn7' k e; omega)
 clear hLg hB7 hK57 gM7 gG7 hb8 hK7 m7 o7 r0 r1
 obtain ⟨q, hq⟩ : ∃ q, cx + (m + 2) = q := ⟨_, rfl⟩
 have hqI : (cx : Int) + ((m : Int) + 2) = (q : Int) := by omega
 rw [hq] at hf1 hf2 w3' hOP9 hKf hLm
 go_wp2_with fail
 try rw [hqI]
 have gM9 := gM8.setC 1 (.int .i64 (q : Nat))
 have hch9 := Chg.setCell (S := fun j => j = M) w8 M 1 (.int .i64 (q : Nat)) rfl
 obtain ⟨w9, hw9⟩ : ∃ z, w8.setCell ⟨M, 1, none⟩ (.int .i64 (q : Nat)) = z := ⟨_, rfl⟩
 rw [hw9] at gM9 hch9 hOP9 hKf ⊢
 have hB9 := hB8.trans (hch9.below (N := w.heap.size) (fun j e => by subst e; exact hlM) hB8.size)
 have hP9 : PL w9 (.slice A8 nP c8) P := hOP9.pl
 have hCF := lh (fun w' (hb : Below w9.heap.size w9 w') => show w'.cell? ⟨M, 1, none⟩ = some (.int .i64 (q : Nat)) from (row_cell (gM9.keep hb) 1).1)
 have hT' : ¬ totS P < (q : Int) := by omega
 have hq9 : ¬ (16383 : Int) < (q : Int) := by omega
 refine wp_region_held_drew (S := (fun w' => Below w9.heap.size w9 w')) (by kernel_rfl) (Below.refl _ _).drew (fun hHeld => ?_)
 refine takeH 0 ?_
 refine takeH 1 ?_
 refine takeH 2 ?_
 refine oneL 3 rfl (by kernel_rfl) (fun K hK => ?_)
 go_simp
 refine (hTo.out _ _ (hP9.keep hHeld)).mono ?_
 rintro e w10 ⟨rfl, hb⟩
 refine hK.out _ _ (hHeld.trans (hb.mono hHeld.size)) (fun hHeld2 => ?_)
 clear hK K hHeld
 have hHeld := hHeld2
 clear hHeld2
 try simp only [Act.put,sA,sB,sC]
 refine takeH 4 ?_
 refine takeH 5 ?_
 refine takeH 6 ?_
 refine takeH 7 ?_
 refine takeH 8 ?_
 refine takeH 9 ?_
 refine wpAnyH_done (by kernel_rfl) ?_ _
 have hB10 := hB9.trans (hHeld.mono hB9.size)
 have gM10 : HB w10 M #[.int .i64 1, .int .i64 (q : Nat), .int .u64 (gx : Nat)] 123 := gM9.keep hHeld
 have gG10 := (gG8.chgJ hch9 (by omega)).keep hHeld
 have hK10 := hKf.keep hHeld
 have hP10 := hP9.keep hHeld
 have hD10 := hDv.out _ hB10
 clear hCF hTo hB9 hOP9 hKf hP9 gM9 gG8 hK8 hch9 hDv hHeld hb gM8 m8 o8 hw9
 go_wp2_with fail
 refine (hCt.out _ _ hP10).mono ?_
 rintro e w12 ⟨v12, rfl, hO12, hb12⟩
 obtain ⟨A12, c12, rfl, -⟩ := hO12.pl.form hnr
 have hB12 := hB10.trans (hb12.mono hB10.size)
 have gM12 := gM10.keep hb12
 have gG12 := gG10.keep hb12
 have hK12 := hK10.keep hb12
 have hD12 := hD10.keep hb12
 have hnF := lh (fun k (e : (Value.slice A7 (m + 2) c7).ownBlock = some k) => show ¬ F k from fun z => by have h1 := hn7' k e; have h2 := hlt.out k z; have h3 := hB5.size; omega)
 have hnR := lh (fun k (e : (Value.slice A12 nr c12).ownBlock = some k) => show ¬ F k from fun z => by have h1 := (hO12.lt k e).1; have h2 := hlt.out k z; have h3 := hB10.size; omega)
 have hnM : Hid (¬ F M) := lh (fun z => by have h2 := hlt.out M z; omega)
 have hnC : Hid (¬ F C) := lh (fun z => by have h2 := hlt.out C z; omega)
 clear hCt hP10 hB10 gM10 gG10 hK10 hD10 hb12 hn7' hn7
 go_wp2_with fail
 go_loopw [98, 16] (fun i _ wr => ∃ (k : Nat), k ≤ m + 2 ∧ i = .int .i64 (k : Nat) ∧ DvAt wr B F (stoR s room ws k) ∧ Chg F w12 wr) (fun i _ _ => m + 3 - (intOf i).toNat)
 case atStart => exact ⟨0, Nat.zero_le _, rfl, hD12, Chg.refl F w12⟩
 obtain ⟨k, hk, rfl, hD, hc⟩ := hrel
 clear hD12
 have hKr := hK12.far hc hnF.out
 have hRr := (hO12.chg hc hnR.out).pl
 by_cases hkn : k < m + 2
 rotate_left
 ·obtain rfl : k = m + 2 := by omega
  have hkn' : ¬ ((m + 2 : Nat) : Int) < ((m + 2 : Nat) : Int) := by omega
  have hF1 := hFe.out _ wr hD (fun w' hc' => ((hO12.chg hc hnR.out).chg hc' hnR.out).pl)
  have gMr := gM12.chgJ hc hnM.out
  have gGr := gG12.chgJ hc hnC.out
  clear hFe hD hKr hK12
  go_wp2_with fail
  refine hF1.mono ?_
  rintro e w15 ⟨rfl, hD15, hc15⟩
  have gM15 := gMr.chgJ hc15 hnM.out
  have gG15 := gGr.chgJ hc15 hnC.out
  obtain ⟨r0, r1⟩ := gG15.c2
  obtain ⟨m0, n0⟩ := row_cell gM15 0
  obtain ⟨m1, n1⟩ := row_cell gM15 1
  obtain ⟨m2, n2⟩ := row_cell gM15 2
  have hL15 := hLm.out w15 hD15
  have hc16 := hc.trans hc15 (fun j q => .inl q)
  clear hF1 gMr gGr gM15 gG15 hc hc15 n0 n1 n2 hRr hO12 hLm
  go_wp2_with fail
  refine hL15.mono ?_
  rintro e w17 ⟨rfl, hD17, hc17⟩
  have hc18 := (Chg.of_below F hB12).trans (hc16.trans hc17 (fun j q => .inl q)) (fun j q => .inl q)
  go_wp2_with fail
  go_ret
  rw [← hq] at hD17
  exact ⟨rfl, hD17, hc18⟩
 have hkn' : (k : Int) < ((m + 2 : Nat) : Int) := by omega
 obtain ⟨A9, c9, he, hF⟩ := hKr.form hnl
 cases he
 obtain ⟨g, off, rfl, hcap, hgs, k1⟩ := hF wr k (Below.refl _ _) hkn
 have hst1 := stoR_succ s room ws k
 have hGk := hGs.out k hk
 have hAt := hAto.out (k : Nat) (by omega) (by omega)
 generalize ws.getD k 0 = y at *
 generalize atL room (k : Nat) = ap at *
 have hSt := lh (fun w2 (q : Below wr.heap.size wr w2) => dStore B F _ ap y w2 (hD.keep q) hGk)
 rw [← hst1] at hSt
 replace hst1 := lh hst1
 replace hAt := lh hAt
 have hCF := lh (fun w' (hb : Below wr.heap.size wr w') => show w'.cell? ⟨g, off + k, none⟩ = some (.int .u64 (y : Nat)) from by rw [(bcell hb).1 _ _ hgs]; exact k1)
 clear hF hKr hGk
 go_wp2_with fail
 refine wp_region_tail (S := (fun w' => Below wr.heap.size wr w')) (n := 8) (by kernel_rfl) (Below.refl _ _).drew (fun hHeld hInv => ?_) (by decide)
 refine takeHS 0 hInv ?_; clear hInv; intro hInv
 refine takeHS 1 hInv ?_; clear hInv; intro hInv
 refine takeHS 2 hInv ?_; clear hInv; intro hInv
 refine takeHS 4 hInv ?_; clear hInv; intro hInv
 refine takeHS 5 hInv ?_; clear hInv; intro hInv
 refine takeHS 6 hInv ?_; clear hInv; intro hInv
 refine takeHS 7 hInv ?_; clear hInv; intro hInv
 refine oneS 3 hInv (by decide) rfl (by kernel_rfl) (fun K hK => ?_)
 go_simp
 refine (hAt.out _ _ (hRr.keep hHeld)).mono ?_
 rintro e w13 ⟨rfl, hb⟩
 refine hK.out _ _ (hHeld.trans (hb.mono hHeld.size)) (fun hHeld2 hInv2 => ?_)
 clear hK K hHeld hInv
 have hHeld := hHeld2
 have hInv := hInv2
 clear hHeld2 hInv2
 try simp only [Act.put,sA,sB,sC] at hInv ⊢
 refine lastS 8 rfl (by decide) (by kernel_rfl) (fun K hK => ?_)
 have hB3 := hHeld
 go_simp
 refine (hSt.out _ hB3).mono ?_
 rintro e w14 ⟨rfl, hD4, hc4⟩
 refine hK.out _ _ ?_
 clear hK K
 try simp only [Act.put,sA,sB,sC]
 refine wpAnyS_done (by kernel_rfl) ?_ _
 have hc5 := hc.trans ((Chg.of_below F hB3).trans hc4 (fun j q => .inl q)) (fun j q => .inl q)
 clear hCF hInv hHeld hB3 hc4 hSt hAt hc k1 hD
 go_wp2_with fail
 go_roundw
 case rel => exact ⟨k + 1, by omega, by go_num, hD4, hc5⟩
 first | (simp [intOf]; done) | (simp [intOf]; omega)
end Go.Proofs.YtkkbngcgphlikaaGreatDoor
