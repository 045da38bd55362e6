/-
  Part of the proof of SoundTells,SoundGiven.
-/
import Derived.Test.YtdmmbnnejbmdpaaGreatDoorVu911
import Derived.Test.YtdmmbnnejbmdpaaGreatDoorVu917
import Derived.Test.YtdmmbnnejbmdpaaGreatDoorVu939
import Derived.Test.YtdmmbnnejbmdpaaGreatDoorVu940
import Derived.Test.YtdmmbnnejbmdpaaGreatDoorVu90
set_option maxRecDepth 10000
set_option maxHeartbeats 4000000
set_option linter.unusedVariables false
set_option linter.unusedSimpArgs false
section
namespace Go.Proofs.YtdmmbnnejbmdpaaGreatDoor
open Go.Lib Go.RowKit Go.ChangeShapes Go.WideShapes Go.Deep Go.Shelf
theorem HB.chg9 {S : Nat → Prop} {w w1 : World} {b : Nat} {cs : Array Value} {t : TypeId} (h : HB w b cs t) (hc : Chg S w w1) (hn : ¬ S b) : HB w1 b cs t := (hc.block b h.lt hn).trans h
theorem Header_any (g off cap N L : Nat) (I : List Nat) (bc bj bm : Nat) (w : World) (h : PoolM w g off cap N L I) (hb : (bc, bj, bm) ∈ blI I L) :
 Calls Tryz.prog 43 #[.slice (some ⟨g, off, none⟩) N cap, .agg #[.int .i64 (N : Nat), .int .i64 (L : Nat)], .agg #[.int .i64 (bc : Nat), .int .i64 (bj : Nat), .int .i64 (bm : Nat)]] w fun e w' => e = .returned (.tuple #[pV (hdAt I (plc N L (bc, bj, bm))), .bool (objH I L (bc, bj, bm)).isSome]) ∧ Below w.heap.size w w' := by
 have hgI : gOk (I.length : Nat) (L : Nat) = true := by rw [h.hN]; exact h.hs
 obtain ⟨u1, u2, u3, u4, u5, u6, u7⟩ := plc_bd hgI hb
 have hN := h.hN
 have hN8 := h.hN8
 have hcp := h.cap
 rw [hN] at u1 u6 u7
 simp only [] at u2 u3 u4 u5
 have hPl := lh (fun w1 => refPlace_any N L bc bj bm w1 h.hs u1 (by omega) (by omega) (by omega))
 have hoH : objH I L (bc, bj, bm) = (match hdAt I (plc N L (bc, bj, bm)) with
  | some (t, s, n) => if romJ (s : Nat) = (bm : Nat) then some (plc N L (bc, bj, bm), t, s, n) else none
  | none => none) := by unfold objH; rw [hN]; rfl
 obtain ⟨p, hp⟩ : ∃ p, plc N L (bc, bj, bm) = p := ⟨_, rfl⟩
 rw [hp] at hPl u6 u7 hoH ⊢
 have hDc := lh (fun w1 (hb : Below w.heap.size w w1) => refDecode_any_oc (.slice (some ⟨g, off + p, none⟩) 2 (cap - p)) ((I.drop p).take 2) w1 (KL.partC (h.hv.keep hb) hN p 2 (cap - p) (by omega) (by omega)) (fun x hx => h.hW x (List.mem_of_mem_drop (List.mem_of_mem_take hx))))
 obtain ⟨i0, hi, hz0, hz1, hz2⟩ := info_parts infoU64
 have hSl := fun w1 => run_slice2 (P := Tryz.prog) Tryz.underlying25 hi hz1 g off N cap p (p + 2) 2 (by omega) (by omega) (by omega) (by omega) w1
 obtain ⟨e2, he2⟩ : ∃ e, p + 2 = e := ⟨_, rfl⟩
 rw [he2] at hSl
 have z1 : (p : Int) + 2 = (e2 : Int) := by omega
 have z2 : IntKind.i64.wrap (e2 : Int) = (e2 : Int) := wrapQ _ (by omega) (by omega)
 have hbq : bm < 32 ∨ bm % 32 = 0 := by
  obtain ⟨q1, q2⟩ := bl_bd hb
  simp only [] at q2
  omega
 obtain ⟨hd, hhd⟩ : ∃ x, hdAt I p = x := ⟨_, rfl⟩
 have hdd : decH ((I.drop p).take 2) = hd := hhd
 rw [hhd] at hoH ⊢
 rw [hdd] at hDc
 obtain ⟨ans, hans⟩ : ∃ a, (objH I L (bc, bj, bm)).isSome = a := ⟨_, rfl⟩
 rw [hans]
 rw [hoH] at hans
 replace hans := lh hans
 clear h hb hgI hcp hhd u1 u2 u3 u6 u7 hp hoH
 have hb0 := bZ w (.cells #[.int .i64 (N : Nat), .int .i64 (L : Nat)] 51)
 have gG := HB.new w #[.int .i64 (N : Nat), .int .i64 (L : Nat)] 51
 obtain ⟨wb1, hwb1⟩ : ∃ x, w.alloc (.cells #[.int .i64 (N : Nat), .int .i64 (L : Nat)] 51) = x := ⟨_, rfl⟩
 have hswb1 : wb1.heap.size = w.heap.size + 1 := by rw [← hwb1]; simp
 rw [hwb1] at hb0 gG
 have hB : Below w.heap.size w wb1 := hb0
 have hb1 := bZ wb1 (.cells #[.int .i64 (bc : Nat), .int .i64 (bj : Nat), .int .i64 (bm : Nat)] 61)
 have gK := HB.new wb1 #[.int .i64 (bc : Nat), .int .i64 (bj : Nat), .int .i64 (bm : Nat)] 61
 obtain ⟨wb2, hwb2⟩ : ∃ x, wb1.alloc (.cells #[.int .i64 (bc : Nat), .int .i64 (bj : Nat), .int .i64 (bm : Nat)] 61) = x := ⟨_, rfl⟩
 have hswb2 : wb2.heap.size = w.heap.size + 2 := by rw [← hwb2]; simp; omega
 rw [hwb2] at hb1 gK
 rw [hswb1] at gK
 replace gG := gG.keep hb1
 replace hB := hB.trans (hb1.mono (by omega))
 have hb2 := bZ wb2 (.cells #[.int .i64 0, .int .i64 0, .int .u64 0] 71)
 have gR := HB.new wb2 #[.int .i64 0, .int .i64 0, .int .u64 0] 71
 obtain ⟨wb3, hwb3⟩ : ∃ x, wb2.alloc (.cells #[.int .i64 0, .int .i64 0, .int .u64 0] 71) = x := ⟨_, rfl⟩
 have hswb3 : wb3.heap.size = w.heap.size + 3 := by rw [← hwb3]; simp; omega
 rw [hwb3] at hb2 gR
 rw [hswb2] at gR
 replace gG := gG.keep hb2
 replace gK := gK.keep hb2
 replace hB := hB.trans (hb2.mono (by omega))
 obtain ⟨C, hC⟩ : ∃ C, w.heap.size = C := ⟨_, rfl⟩
 rw [hC] at gG gK gR hswb1 hswb2 hswb3
 clear hb0 hb1 hb2
 obtain ⟨p0, p1⟩ := gG.c2
 have k0 := (row_cell gK 0).1
 have k1 := (row_cell gK 1).1
 have k2 := (row_cell gK 2).1
 go_enter Tryz.func43, Tryz.ntmps43
 subst hwb3 hwb2 hwb1
 go_wp2_with fail
 refine (hPl.out _).mono ?_
 rintro e w1 ⟨rfl, hb1⟩
 have hB1 := hB.trans (hb1.mono hB.size)
 have gK1 := gK.keep hb1
 have gR1 := gR.keep hb1
 have hD1 := hDc.out _ hB1
 clear p0 p1 k0 k1 k2 gG gK gR hPl hDc hb1 hB
 go_wp2_with fail
 refine hD1.mono ?_
 rintro e w2 ⟨rfl, hb2⟩
 have hB2 := hB1.trans (hb2.mono hB1.size)
 have gK2 := gK1.keep hb2
 have gR2 := gR1.keep hb2
 have hwC : w.heap.size ≤ C := by omega
 clear hD1 hb2 hB1 gK1 gR1
 rcases hd with _ | ⟨t, s, sn⟩
 ·have hf := lh (show ans = false from hans.out.symm)
  unfold pV nV
  simp only [Option.isSome_none]
  obtain ⟨r0, r0'⟩ := row_cell gR2 0
  obtain ⟨r1, r1'⟩ := row_cell gR2 1
  obtain ⟨r2, r2'⟩ := row_cell gR2 2
  obtain ⟨d0, d1, d2⟩ := st3_at (x' := .int .i64 0) (y' := .int .i64 0) (z' := .int .u64 0) gR2
  have hs2 : C + 2 < w2.heap.size := gR2.lt
  have hBe := ((hB2.setCell (p := ⟨C + 2, 0, none⟩) (by simp; omega) (.int .i64 0)).setCell (p := ⟨C + 2, 1, none⟩) (by simp; omega) (.int .i64 0)).setCell (p := ⟨C + 2, 2, none⟩) (by simp; omega) (.int .u64 0)
  have hlt : C + 2 < (((w2.setCell ⟨C + 2, 0, none⟩ (.int .i64 0)).setCell ⟨C + 2, 1, none⟩ (.int .i64 0)).setCell ⟨C + 2, 2, none⟩ (.int .u64 0)).heap.size := by rw [size_setCell, size_setCell, size_setCell]; exact gR2.lt
  clear hSl gK2
  go_wp2_with fail
  generalize (((w2.setCell ⟨C + 2, 0, none⟩ (.int .i64 0)).setCell ⟨C + 2, 1, none⟩ (.int .i64 0)).setCell ⟨C + 2, 2, none⟩ (.int .u64 0)) = W3 at *
  have hb9 := bZ W3 (.cells #[.int .i64 0, .int .i64 0, .int .u64 0] 71)
  have c0 := (bcell hb9).1 _ 0 hlt
  have c1 := (bcell hb9).1 _ 1 hlt
  have c2 := (bcell hb9).1 _ 2 hlt
  rw [d0] at c0
  rw [d1] at c1
  rw [d2] at c2
  have hBf := hBe.trans (hb9.mono hBe.size)
  refine bodyPost_ret (v := .tuple #[.agg #[.int .i64 0, .int .i64 0, .int .u64 0], .bool false]) (by simp [results, Tryz.results43, go_sem, c0, c1, c2]) rfl ⟨by rw [hf.out]; rfl, by first | exact hBf | (rw [hC] at hBf; exact hBf)⟩
 ·unfold pV nV
  simp only [Option.isSome_some]
  have hds := decH_bd hdd
  obtain ⟨ds1, ds2, ds3, ds4⟩ := hds
  have hs2 : C + 2 < w2.heap.size := gR2.lt
  have e3 := bZ w2 (.cells #[.int .i64 (t : Nat), .int .i64 (s : Nat), .int .u64 (sn : Nat)] 71)
  have gH := HB.new w2 #[.int .i64 (t : Nat), .int .i64 (s : Nat), .int .u64 (sn : Nat)] 71
  have gK3 := gK2.keep e3
  have gR3 := gR2.keep e3
  have hB3 := hB2.trans (e3.mono hB2.size)
  obtain ⟨w3, hw3⟩ : ∃ x, w2.alloc (.cells #[.int .i64 (t : Nat), .int .i64 (s : Nat), .int .u64 (sn : Nat)] 71) = x := ⟨_, rfl⟩
  rw [hw3] at gH gK3 gR3 hB3
  obtain ⟨H3, hH3⟩ : ∃ H, w2.heap.size = H := ⟨_, rfl⟩
  rw [hH3] at gH
  obtain ⟨h0, h0'⟩ := row_cell gH 0
  obtain ⟨h1, h1'⟩ := row_cell gH 1
  obtain ⟨h2, h2'⟩ := row_cell gH 2
  have t2 := (row_cell gK3 2).1
  clear e3 gK2 gR2 hB2
  have hiff := romJ_words s ds3 bm
  have hK1 : ¬ C + 1 = C + 2 := by omega
  have hK2 : ¬ H3 = C + 2 := by omega
  clear hSl
  by_cases hm : bm < 32
  ·have hm' : (bm : Int) < 32 := by omega
   rw [if_pos hm] at hiff
   obtain ⟨c, hc⟩ : ∃ c, clsI (s : Nat) = c := ⟨_, rfl⟩
   have hOf := lh (fun w1 => (refOf_any_oc (s : Nat) w1).mono (fun e w' h => show e = .returned (.int .i64 c) ∧ Below w1.heap.size w1 w' from ⟨by rw [h.1, hc], h.2 ▸ Below.refl _ _⟩))
   rw [hc] at hiff
   obtain ⟨kb, hkb⟩ : ∃ k, blkI c = k := ⟨_, rfl⟩
   have hBk := lh (fun w1 => (refBlk_any c w1).mono (fun e w' h => show e = .returned (.int .i64 kb) ∧ Below w1.heap.size w1 w' from ⟨by rw [h.1, hkb], h.2 ▸ Below.refl _ _⟩))
   rw [hkb] at hiff
   clear hc hkb
   go_wp2_with fail
   refine (hOf.out _).mono ?_
   rintro e w4 ⟨rfl, hb4⟩
   have hB4 := hB3.trans (hb4.mono hB3.size)
   have gK4 := gK3.keep hb4
   have gR4 := gR3.keep hb4
   have gH4 := gH.keep hb4
   clear h0 h1 h2 h0' h1' h2' t2 hOf hb4 gK3 gR3 gH hB3
   have hCF := lh (fun w' (hb : Chg (fun k => k = C + 2) w4 w') => show w'.cell? ⟨C + 1, 2, none⟩ = some (.int .i64 (bm : Nat)) ∧ w'.cell? ⟨H3, 0, none⟩ = some (.int .i64 (t : Nat)) ∧ w'.cell? ⟨H3, 1, none⟩ = some (.int .i64 (s : Nat)) ∧ w'.cell? ⟨H3, 2, none⟩ = some (.int .u64 (sn : Nat)) from
    ⟨(row_cell (gK4.chg9 hb hK1) 2).1, (row_cell (gH4.chg9 hb hK2) 0).1, (row_cell (gH4.chg9 hb hK2) 1).1, (row_cell (gH4.chg9 hb hK2) 2).1⟩)
   by_cases hc0 : 0 ≤ c
   ·by_cases hk : kb = (bm : Nat)
    ·have hf := lh (show ans = true from by rw [← hans.out]; show (if romJ (s : Nat) = (bm : Nat) then some (p, t, s, sn) else none).isSome = true; rw [if_pos (hiff.2 ⟨hc0, hk⟩)]; rfl)
     rw [hk] at hBk
     clear hk hiff hans hdd
     go_wp2_with fail
     refine wp_region_held_drew (S := (fun w' => Chg (fun k => k = C + 2) w4 w')) (by kernel_rfl) (Chg.of_below _ (Below.refl _ _).drew) (fun hHeld => ?_)
     refine takeH 0 ?_
     refine takeH 1 ?_
     refine takeH 2 ?_
     refine takeH 3 ?_
     refine takeH 4 ?_
     refine takeH 6 ?_
     refine takeH 7 ?_
     refine oneL 5 rfl (by kernel_rfl) (fun K hK => ?_)
     go_simp
     refine (hBk.out _).mono ?_; rintro e w5 ⟨rfl, hb⟩
     have gR5 := (gR4.keep (Below.refl w4.heap.size w4).drew).keep hb
     have hB5 := hB4.drew.trans (hb.mono (hB4.drew).size)
     refine hK.out _ _ (hHeld.trans (Chg.of_below (fun k => k = C + 2) hb) (fun k h => .inl h)) (fun hHeld2 => ?_)
     clear hK K hHeld hb
     have hHeld := hHeld2
     clear hHeld2
     try simp only [Act.put,sA,sB,sC]
     refine takeH 8 ?_
     refine takeH 9 ?_
     obtain ⟨r0, r0'⟩ := row_cell gR5 0
     obtain ⟨r1, r1'⟩ := row_cell gR5 1
     obtain ⟨r2, r2'⟩ := row_cell gR5 2
     obtain ⟨d0, d1, d2⟩ := st3_at (x' := .int .i64 (t : Nat)) (y' := .int .i64 (s : Nat)) (z' := .int .u64 (sn : Nat)) gR5
     have hBe := ((hB5.setCell (p := ⟨C + 2, 0, none⟩) (by simp; omega) (.int .i64 (t : Nat))).setCell (p := ⟨C + 2, 1, none⟩) (by simp; omega) (.int .i64 (s : Nat))).setCell (p := ⟨C + 2, 2, none⟩) (by simp; omega) (.int .u64 (sn : Nat))
     refine oneL 10 rfl (by kernel_rfl) (fun K hK => ?_)
     go_simp
     refine hK.out _ _ (hHeld.trans (((Chg.setCell (S := fun k => k = C + 2) w5 _ _ _ rfl).trans (Chg.setCell (S := fun k => k = C + 2) _ _ _ _ rfl) (fun k h => .inl h)).trans (Chg.setCell (S := fun k => k = C + 2) _ _ _ _ rfl) (fun k h => .inl h)) (fun k h => .inl h)) (fun hHeld2 => ?_)
     clear hK K hHeld
     have hHeld := hHeld2
     clear hHeld2
     try simp only [Act.put,sA,sB,sC]
     refine takeH 11 ?_
     refine wpAnyH_done (by kernel_rfl) ?_ _
     clear r0 r1 r2 gR5 hHeld
     go_wp2_with fail
     refine bodyPost_ret (v := .tuple #[.agg #[.int .i64 (t : Nat), .int .i64 (s : Nat), .int .u64 (sn : Nat)], .bool true]) (by simp [results, Tryz.results43, go_sem, d0, d1, d2]) rfl ⟨by rw [hf.out]; rfl, by first | exact hBe | (rw [hC] at hBe; exact hBe)⟩
    ·have hf := lh (show ans = false from by rw [← hans.out]; show (if romJ (s : Nat) = (bm : Nat) then some (p, t, s, sn) else none).isSome = false; rw [if_neg (fun qq => (show ¬ (0 ≤ c ∧ kb = (bm : Nat)) from fun q => hk q.2) (hiff.1 qq))]; rfl)
     have hk2 : (kb == (bm : Int)) = false := beq_eq_false_iff_ne.2 hk
     clear hiff hans hdd
     go_wp2_with fail
     refine wp_region_held_drew (S := (fun w' => Chg (fun k => k = C + 2) w4 w')) (by kernel_rfl) (Chg.of_below _ (Below.refl _ _).drew) (fun hHeld => ?_)
     refine takeH 0 ?_
     refine takeH 1 ?_
     refine takeH 2 ?_
     refine takeH 3 ?_
     refine takeH 4 ?_
     refine takeH 6 ?_
     refine takeH 7 ?_
     refine oneL 5 rfl (by kernel_rfl) (fun K hK => ?_)
     go_simp
     refine (hBk.out _).mono ?_; rintro e w5 ⟨rfl, hb⟩
     have gR5 := (gR4.keep (Below.refl w4.heap.size w4).drew).keep hb
     have hB5 := hB4.drew.trans (hb.mono (hB4.drew).size)
     refine hK.out _ _ (hHeld.trans (Chg.of_below (fun k => k = C + 2) hb) (fun k h => .inl h)) (fun hHeld2 => ?_)
     clear hK K hHeld hb
     have hHeld := hHeld2
     clear hHeld2
     try simp only [Act.put,sA,sB,sC]
     refine takeH 8 ?_
     refine takeH 9 ?_
     obtain ⟨r0, r0'⟩ := row_cell gR5 0
     obtain ⟨r1, r1'⟩ := row_cell gR5 1
     obtain ⟨r2, r2'⟩ := row_cell gR5 2
     obtain ⟨d0, d1, d2⟩ := st3_at (x' := .int .i64 (t : Nat)) (y' := .int .i64 (s : Nat)) (z' := .int .u64 (sn : Nat)) gR5
     have hBe := ((hB5.setCell (p := ⟨C + 2, 0, none⟩) (by simp; omega) (.int .i64 (t : Nat))).setCell (p := ⟨C + 2, 1, none⟩) (by simp; omega) (.int .i64 (s : Nat))).setCell (p := ⟨C + 2, 2, none⟩) (by simp; omega) (.int .u64 (sn : Nat))
     refine oneL 10 rfl (by kernel_rfl) (fun K hK => ?_)
     go_simp
     refine hK.out _ _ (hHeld.trans (((Chg.setCell (S := fun k => k = C + 2) w5 _ _ _ rfl).trans (Chg.setCell (S := fun k => k = C + 2) _ _ _ _ rfl) (fun k h => .inl h)).trans (Chg.setCell (S := fun k => k = C + 2) _ _ _ _ rfl) (fun k h => .inl h)) (fun k h => .inl h)) (fun hHeld2 => ?_)
     clear hK K hHeld
     have hHeld := hHeld2
     clear hHeld2
     try simp only [Act.put,sA,sB,sC]
     refine takeH 11 ?_
     refine wpAnyH_done (by kernel_rfl) ?_ _
     clear r0 r1 r2 gR5 hHeld
     go_wp2_with fail
     refine bodyPost_ret (v := .tuple #[.agg #[.int .i64 (t : Nat), .int .i64 (s : Nat), .int .u64 (sn : Nat)], .bool false]) (by simp [results, Tryz.results43, go_sem, d0, d1, d2]) rfl ⟨by rw [hf.out]; rfl, by first | exact hBe | (rw [hC] at hBe; exact hBe)⟩
   ·have hf := lh (show ans = false from by rw [← hans.out]; show (if romJ (s : Nat) = (bm : Nat) then some (p, t, s, sn) else none).isSome = false; rw [if_neg (fun qq => (show ¬ (0 ≤ c ∧ kb = (bm : Nat)) from fun q => hc0 q.1) (hiff.1 qq))]; rfl)
    have hcd : (0 ≤ c) = False := eq_false hc0
    have hcd2 : decide (0 ≤ c) = false := decide_eq_false hc0
    clear hiff hans hdd
    go_wp2_with fail
    refine wp_region_held_drew (S := (fun w' => Chg (fun k => k = C + 2) w4 w')) (by kernel_rfl) (Chg.of_below _ (Below.refl _ _).drew) (fun hHeld => ?_)
    have gR5 := gR4.keep (Below.refl w4.heap.size w4).drew
    have hB5 := hB4.drew
    generalize w4.drew = w5 at hHeld gR5 hB5 ⊢
    refine takeH 0 ?_
    refine takeH 1 ?_
    refine takeH 2 ?_
    refine takeH 3 ?_
    refine idleQ 4 ?_
    refine idleQ 5 ?_
    refine idleQ 6 ?_
    refine idleQ 7 ?_
    refine idleQ 8 ?_
    refine takeH 9 ?_
    obtain ⟨r0, r0'⟩ := row_cell gR5 0
    obtain ⟨r1, r1'⟩ := row_cell gR5 1
    obtain ⟨r2, r2'⟩ := row_cell gR5 2
    obtain ⟨d0, d1, d2⟩ := st3_at (x' := .int .i64 (t : Nat)) (y' := .int .i64 (s : Nat)) (z' := .int .u64 (sn : Nat)) gR5
    have hBe := ((hB5.setCell (p := ⟨C + 2, 0, none⟩) (by simp; omega) (.int .i64 (t : Nat))).setCell (p := ⟨C + 2, 1, none⟩) (by simp; omega) (.int .i64 (s : Nat))).setCell (p := ⟨C + 2, 2, none⟩) (by simp; omega) (.int .u64 (sn : Nat))
    refine oneL 10 rfl (by kernel_rfl) (fun K hK => ?_)
    go_simp
    refine hK.out _ _ (hHeld.trans (((Chg.setCell (S := fun k => k = C + 2) w5 _ _ _ rfl).trans (Chg.setCell (S := fun k => k = C + 2) _ _ _ _ rfl) (fun k h => .inl h)).trans (Chg.setCell (S := fun k => k = C + 2) _ _ _ _ rfl) (fun k h => .inl h)) (fun k h => .inl h)) (fun hHeld2 => ?_)
    clear hK K hHeld
    have hHeld := hHeld2
    clear hHeld2
    try simp only [Act.put,sA,sB,sC]
    refine takeH 11 ?_
    refine wpAnyH_done (by kernel_rfl) ?_ _
    clear r0 r1 r2 gR5 hHeld
    go_wp2_with fail
    refine bodyPost_ret (v := .tuple #[.agg #[.int .i64 (t : Nat), .int .i64 (s : Nat), .int .u64 (sn : Nat)], .bool false]) (by simp [results, Tryz.results43, go_sem, d0, d1, d2]) rfl ⟨by rw [hf.out]; rfl, by first | exact hBe | (rw [hC] at hBe; exact hBe)⟩
  ·have hm' : ¬ (bm : Int) < 32 := by omega
   rw [if_neg hm] at hiff
   obtain ⟨q, hq⟩ : ∃ q, chkI (s : Nat) = q := ⟨_, rfl⟩
   have hCk := lh (fun w1 => (refChk_any (s : Nat) w1).mono (fun e w' h => show e = .returned (.int .i64 q) ∧ Below w1.heap.size w1 w' from ⟨by rw [h.1, hq], h.2 ▸ Below.refl _ _⟩))
   rw [hq] at hiff
   obtain ⟨m3, hm3⟩ : ∃ m, bm / 32 = m := ⟨_, rfl⟩
   have x1 : (bm : Int) / 32 = (m3 : Int) := by omega
   have x2 : IntKind.i64.wrap (m3 : Int) = (m3 : Int) := wrapQ _ (by omega) (by omega)
   rw [hm3] at hiff
   have hm0 : bm % 32 = 0 := by omega
   obtain ⟨w4, hw4⟩ : ∃ x, w3 = x := ⟨_, rfl⟩
   rw [hw4] at gK3 gR3 gH hB3 h0 h1 h2 t2 hw3
   have gK4 := gK3
   have gR4 := gR3
   have gH4 := gH
   have hB4 := hB3
   clear hq hm3 gK3 gR3 gH hB3
   have hCF := lh (fun w' (hb : Chg (fun k => k = C + 2) w4 w') => show w'.cell? ⟨C + 1, 2, none⟩ = some (.int .i64 (bm : Nat)) ∧ w'.cell? ⟨H3, 0, none⟩ = some (.int .i64 (t : Nat)) ∧ w'.cell? ⟨H3, 1, none⟩ = some (.int .i64 (s : Nat)) ∧ w'.cell? ⟨H3, 2, none⟩ = some (.int .u64 (sn : Nat)) from
    ⟨(row_cell (gK4.chg9 hb hK1) 2).1, (row_cell (gH4.chg9 hb hK2) 0).1, (row_cell (gH4.chg9 hb hK2) 1).1, (row_cell (gH4.chg9 hb hK2) 2).1⟩)
   by_cases hk : q = (m3 : Nat)
   ·have hf := lh (show ans = true from by rw [← hans.out]; show (if romJ (s : Nat) = (bm : Nat) then some (p, t, s, sn) else none).isSome = true; rw [if_pos (hiff.2 ⟨hm0, hk⟩)]; rfl)
    rw [hk] at hCk
    clear hk hiff hans hdd
    go_wp2_with fail
    refine wp_region_held_drew (S := (fun w' => Chg (fun k => k = C + 2) w4 w')) (by kernel_rfl) (Chg.of_below _ (Below.refl _ _).drew) (fun hHeld => ?_)
    refine takeH 0 ?_
    refine takeH 1 ?_
    refine takeH 2 ?_
    refine takeH 4 ?_
    refine takeH 5 ?_
    refine takeH 6 ?_
    refine oneL 3 rfl (by kernel_rfl) (fun K hK => ?_)
    go_simp
    refine (hCk.out _).mono ?_; rintro e w5 ⟨rfl, hb⟩
    have gR5 := (gR4.keep (Below.refl w4.heap.size w4).drew).keep hb
    have hB5 := hB4.drew.trans (hb.mono (hB4.drew).size)
    refine hK.out _ _ (hHeld.trans (Chg.of_below (fun k => k = C + 2) hb) (fun k h => .inl h)) (fun hHeld2 => ?_)
    clear hK K hHeld hb
    have hHeld := hHeld2
    clear hHeld2
    try simp only [Act.put,sA,sB,sC]
    refine takeH 7 ?_
    obtain ⟨r0, r0'⟩ := row_cell gR5 0
    obtain ⟨r1, r1'⟩ := row_cell gR5 1
    obtain ⟨r2, r2'⟩ := row_cell gR5 2
    obtain ⟨d0, d1, d2⟩ := st3_at (x' := .int .i64 (t : Nat)) (y' := .int .i64 (s : Nat)) (z' := .int .u64 (sn : Nat)) gR5
    have hBe := ((hB5.setCell (p := ⟨C + 2, 0, none⟩) (by simp; omega) (.int .i64 (t : Nat))).setCell (p := ⟨C + 2, 1, none⟩) (by simp; omega) (.int .i64 (s : Nat))).setCell (p := ⟨C + 2, 2, none⟩) (by simp; omega) (.int .u64 (sn : Nat))
    refine oneL 8 rfl (by kernel_rfl) (fun K hK => ?_)
    go_simp
    refine hK.out _ _ (hHeld.trans (((Chg.setCell (S := fun k => k = C + 2) w5 _ _ _ rfl).trans (Chg.setCell (S := fun k => k = C + 2) _ _ _ _ rfl) (fun k h => .inl h)).trans (Chg.setCell (S := fun k => k = C + 2) _ _ _ _ rfl) (fun k h => .inl h)) (fun k h => .inl h)) (fun hHeld2 => ?_)
    clear hK K hHeld
    have hHeld := hHeld2
    clear hHeld2
    try simp only [Act.put,sA,sB,sC]
    refine takeH 9 ?_
    refine wpAnyH_done (by kernel_rfl) ?_ _
    clear r0 r1 r2 gR5 hHeld
    go_wp2_with fail
    refine bodyPost_ret (v := .tuple #[.agg #[.int .i64 (t : Nat), .int .i64 (s : Nat), .int .u64 (sn : Nat)], .bool true]) (by simp [results, Tryz.results43, go_sem, d0, d1, d2]) rfl ⟨by rw [hf.out]; rfl, by first | exact hBe | (rw [hC] at hBe; exact hBe)⟩
   ·have hf := lh (show ans = false from by rw [← hans.out]; show (if romJ (s : Nat) = (bm : Nat) then some (p, t, s, sn) else none).isSome = false; rw [if_neg (fun qq => (show ¬ (bm % 32 = 0 ∧ q = (m3 : Nat)) from fun e => hk e.2) (hiff.1 qq))]; rfl)
    have hk2 : (q == (m3 : Int)) = false := beq_eq_false_iff_ne.2 hk
    clear hiff hans hdd
    go_wp2_with fail
    refine wp_region_held_drew (S := (fun w' => Chg (fun k => k = C + 2) w4 w')) (by kernel_rfl) (Chg.of_below _ (Below.refl _ _).drew) (fun hHeld => ?_)
    refine takeH 0 ?_
    refine takeH 1 ?_
    refine takeH 2 ?_
    refine takeH 4 ?_
    refine takeH 5 ?_
    refine takeH 6 ?_
    refine oneL 3 rfl (by kernel_rfl) (fun K hK => ?_)
    go_simp
    refine (hCk.out _).mono ?_; rintro e w5 ⟨rfl, hb⟩
    have gR5 := (gR4.keep (Below.refl w4.heap.size w4).drew).keep hb
    have hB5 := hB4.drew.trans (hb.mono (hB4.drew).size)
    refine hK.out _ _ (hHeld.trans (Chg.of_below (fun k => k = C + 2) hb) (fun k h => .inl h)) (fun hHeld2 => ?_)
    clear hK K hHeld hb
    have hHeld := hHeld2
    clear hHeld2
    try simp only [Act.put,sA,sB,sC]
    refine takeH 7 ?_
    obtain ⟨r0, r0'⟩ := row_cell gR5 0
    obtain ⟨r1, r1'⟩ := row_cell gR5 1
    obtain ⟨r2, r2'⟩ := row_cell gR5 2
    obtain ⟨d0, d1, d2⟩ := st3_at (x' := .int .i64 (t : Nat)) (y' := .int .i64 (s : Nat)) (z' := .int .u64 (sn : Nat)) gR5
    have hBe := ((hB5.setCell (p := ⟨C + 2, 0, none⟩) (by simp; omega) (.int .i64 (t : Nat))).setCell (p := ⟨C + 2, 1, none⟩) (by simp; omega) (.int .i64 (s : Nat))).setCell (p := ⟨C + 2, 2, none⟩) (by simp; omega) (.int .u64 (sn : Nat))
    refine oneL 8 rfl (by kernel_rfl) (fun K hK => ?_)
    go_simp
    refine hK.out _ _ (hHeld.trans (((Chg.setCell (S := fun k => k = C + 2) w5 _ _ _ rfl).trans (Chg.setCell (S := fun k => k = C + 2) _ _ _ _ rfl) (fun k h => .inl h)).trans (Chg.setCell (S := fun k => k = C + 2) _ _ _ _ rfl) (fun k h => .inl h)) (fun k h => .inl h)) (fun hHeld2 => ?_)
    clear hK K hHeld
    have hHeld := hHeld2
    clear hHeld2
    try simp only [Act.put,sA,sB,sC]
    refine takeH 9 ?_
    refine wpAnyH_done (by kernel_rfl) ?_ _
    clear r0 r1 r2 gR5 hHeld
    go_wp2_with fail
    refine bodyPost_ret (v := .tuple #[.agg #[.int .i64 (t : Nat), .int .i64 (s : Nat), .int .u64 (sn : Nat)], .bool false]) (by simp [results, Tryz.results43, go_sem, d0, d1, d2]) rfl ⟨by rw [hf.out]; rfl, by first | exact hBe | (rw [hC] at hBe; exact hBe)⟩
end Go.Proofs.YtdmmbnnejbmdpaaGreatDoor
end
section
namespace Go.Proofs.YtdmmbnnejbmdpaaGreatDoor
open Go.Lib Go.RowKit Go.ChangeShapes Go.WideShapes Go.Deep Go.Shelf
def rootJ (l : List Oj) (rt : Nat) : Nat × Nat × Nat := ((l.find? fun y => decide (y.1.1 = rt)).map fun y => y.1).getD (0, 0, 0)
theorem rootO_J (I : List Nat) : rootO I = rootJ (objL I) (I.getD 8 0) := by
 unfold rootO objL rootJ rootL
 split
 ·rw [List.find?_map, Option.map_map]; rfl
 ·rfl
theorem findJ_snoc {l : List Oj} {k : Nat} {P : Oj → Bool} (h : k < l.length) (hn : (l.take k).find? P = none) : (l.take (k + 1)).find? P = (if P (l.getD k default) = true then some (l.getD k default) else none) := by
 rw [List.take_succ_eq_append_getElem h, List.find?_append, hn, List.getD_eq_getElem?_getD, List.getElem?_eq_getElem h]
 show (List.find? P [l[k]]) = (if P l[k] = true then some l[k] else none)
 rw [List.find?_cons]
 cases P l[k] <;> rfl
theorem findJ_pre {l : List Oj} {k : Nat} {P : Oj → Bool} {x : Oj} (h : (l.take k).find? P = some x) : l.find? P = some x := by
 have e : l = l.take k ++ l.drop k := (List.take_append_drop k l).symm
 rw [e, List.find?_append, h]
 rfl
theorem refRoot_of (v : Value) (I : List Nat) (l : List Oj) (w : World) (hv : KL .u64 w v I) (h8 : 0 < l.length → 8 < I.length) (hl : l.length ≤ 1000) (hx : ∀ x, x ∈ l → x.1.1 < 1000000)
 (hOb : ∀ w1, Below w.heap.size w w1 → Calls Tryz.prog 17 #[v] w1 fun e w' => ∃ v', e = .returned v' ∧ OJO w' w1.heap.size v' l ∧ Below w1.heap.size w1 w') :
 Calls Tryz.prog 19 #[v] w fun e w' => e = .returned (.agg #[.int .i64 ((rootJ l (I.getD 8 0)).1 : Nat), .int .i64 ((rootJ l (I.getD 8 0)).2.1 : Nat), .int .u64 ((rootJ l (I.getD 8 0)).2.2 : Nat)]) ∧ Below w.heap.size w w' := by
 have e1 := bZ w (.cells #[.int .i64 0, .int .i64 0, .int .u64 0] 42)
 have gR := HB.new w #[.int .i64 0, .int .i64 0, .int .u64 0] 42
 obtain ⟨wa, hwa⟩ : ∃ x, w.alloc (.cells #[.int .i64 0, .int .i64 0, .int .u64 0] 42) = x := ⟨_, rfl⟩
 rw [hwa] at e1 gR
 have hO1 := hOb wa e1
 obtain ⟨N, hN⟩ : ∃ N, I.length = N := ⟨_, rfl⟩
 obtain ⟨n, hn⟩ : ∃ n, l.length = n := ⟨_, rfl⟩
 rw [hn, hN] at h8
 rw [hn] at hl
 obtain ⟨A, cap, rfl, hFv⟩ := hv.form hN
 obtain ⟨rt, hrt⟩ : ∃ x, I.getD 8 0 = x := ⟨_, rfl⟩
 rw [hrt]
 obtain ⟨ans, hans⟩ : ∃ a, rootJ l rt = a := ⟨_, rfl⟩
 rw [hans]
 unfold rootJ at hans
 have hxb := lh (fun k (hk : k < n) => show (l.getD k default).1.1 < 1000000 from hx _ (by rw [List.getD_eq_getElem?_getD, List.getElem?_eq_getElem (by omega)]; exact List.getElem_mem _))
 have hsn := lh (fun k (hk : k < n) (h : (l.take k).find? (fun y => decide (y.1.1 = rt)) = none) => findJ_snoc (l := l) (k := k) (by omega) h)
 have hta := lh (show l.take n = l from List.take_of_length_le (by omega))
 replace hans := lh hans
 replace hn := lh hn
 replace hN := lh hN
 replace hrt := lh hrt
 replace hFv := lh hFv
 clear hv hx hOb
 go_enter Tryz.func19, Tryz.ntmps19
 subst hwa
 go_wp2_with fail
 refine hO1.mono ?_
 rintro e w3 ⟨v3, rfl, ho3, hb3⟩
 have hB3 := e1.trans (hb3.mono e1.size)
 have gR3 := gR.keep hb3
 obtain ⟨A3, c3, rfl, -⟩ := ho3.formJ hn.out
 clear hO1 hb3 gR e1
 go_wp2_with fail
 go_loopw [4] (fun i wr => ∃ (j : Nat), j ≤ n ∧ i = .int .i64 (j : Nat) ∧ Hid ((l.take j).find? (fun y => decide (y.1.1 = rt)) = none) ∧ Below w3.heap.size w3 wr) (fun i _ => n + 1 - (intOf i).toNat)
 case atStart => exact ⟨0, Nat.zero_le _, rfl, lh (by simp), Below.refl _ _⟩
 case round =>
  obtain ⟨j, hj, rfl, hno, hBr⟩ := hrel
  have hBw := hB3.trans (hBr.mono hB3.size)
  have gRr := gR3.keep hBr
  by_cases hlt : j < n
  ·have hlt' : (j : Int) < (n : Int) := by omega
   have h8n := h8 (by omega)
   have h8' : (8 : Int) < (N : Int) := by omega
   obtain ⟨A4, c4, hv4, hF⟩ := (ho3.keep hBr).formJ hn.out
   cases hv4
   obtain ⟨g5, o5, d5, rfl, hc5, -, hg5, k0, k1, k2, -, -⟩ := hF wr j (Below.refl _ _) hlt
   obtain ⟨g, off, rfl, hc6, hg6, k8⟩ := hFv.out wr 8 hBw h8n
   rw [hrt.out] at k8
   have hxb1 := hxb.out j hlt
   have hsn1 := hsn.out j hlt hno.out
   generalize l.getD j default = b at k0 k1 k2 hxb1 hsn1
   obtain ⟨⟨p, t, sn⟩, da⟩ := b
   simp only [] at k0 k1 k2 hxb1 hsn1
   have z1 : IntKind.u64.wrap (p : Int) = (p : Int) := by rw [IntKind.wrap_u64]; omega
   have hgw := hg6
   have hCF := lh (fun w' (hb : Below wr.heap.size wr w') => show w'.cell? ⟨g5, o5 + j * 4, none⟩ = some (.int .i64 (p : Nat)) ∧ w'.cell? ⟨g5, o5 + j * 4 + 1, none⟩ = some (.int .i64 (t : Nat)) ∧ w'.cell? ⟨g5, o5 + j * 4 + 2, none⟩ = some (.int .u64 (sn : Nat)) ∧ w'.cell? ⟨g, off + 8, none⟩ = some (.int .u64 (rt : Nat)) from
    ⟨by rw [(bcell hb).1 _ _ hg5]; exact k0, by rw [(bcell hb).1 _ _ hg5]; exact k1, by rw [(bcell hb).1 _ _ hg5]; exact k2, by rw [(bcell hb).1 _ _ hgw]; exact k8⟩)
   clear hF hno k0 k1 k2 k8
   by_cases hpr : p = rt
   ·subst hpr
    have hf := lh (show ans = (p, t, sn) from by
     rw [← hans.out]
     rw [if_pos (by exact decide_eq_true rfl)] at hsn1
     rw [findJ_pre hsn1]
     rfl)
    clear hsn1
    go_wp2_with fail
    refine wp_region_held_drew (S := (fun w' => Below wr.heap.size wr w')) (by kernel_rfl) (Below.refl _ _).drew (fun hHeld => ?_)
    refine takeH 0 ?_
    refine takeH 1 ?_
    refine takeH 2 ?_
    refine takeH 3 ?_
    refine takeH 4 ?_
    refine takeH 5 ?_
    refine takeH 6 ?_
    refine takeH 7 ?_
    refine takeH 8 ?_
    refine takeH 9 ?_
    refine takeH 10 ?_
    refine wpAnyH_done (by kernel_rfl) ?_ _
    obtain ⟨q0, q1, q2, q3⟩ := hCF.out _ hHeld
    have hBw6 := hBw.trans (hHeld.mono hBw.size)
    have gR6 := gRr.keep hHeld
    clear hCF hHeld gRr
    generalize wr.drew = wd at *
    obtain ⟨a0, b0⟩ := row_cell gR6 0
    obtain ⟨a1, b1⟩ := row_cell gR6 1
    obtain ⟨a2, b2⟩ := row_cell gR6 2
    obtain ⟨d0, d1, d2⟩ := st3_at (x' := .int .i64 (p : Nat)) (y' := .int .i64 (t : Nat)) (z' := .int .u64 (sn : Nat)) gR6
    have hBe := ((hBw6.setCell (p := ⟨w.heap.size, 0, none⟩) (Nat.le_refl _) (.int .i64 (p : Nat))).setCell (p := ⟨w.heap.size, 1, none⟩) (Nat.le_refl _) (.int .i64 (t : Nat))).setCell (p := ⟨w.heap.size, 2, none⟩) (Nat.le_refl _) (.int .u64 (sn : Nat))
    go_wp2_with fail
    refine bodyPost_ret (v := .agg #[.int .i64 (p : Nat), .int .i64 (t : Nat), .int .u64 (sn : Nat)]) (by simp [results, Tryz.results19, go_sem, d0, d1, d2]) rfl ⟨by rw [hf.out], hBe⟩
   ·have hpr' : ¬ (rt : Int) = (p : Int) := by omega
    have hpr2 : ((rt : Int) == (p : Int)) = false := beq_eq_false_iff_ne.2 hpr'
    have hs2 := lh (show (l.take (j + 1)).find? (fun y => decide (y.1.1 = rt)) = none from by
     rw [if_neg (by rw [decide_eq_false hpr]; decide)] at hsn1
     exact hsn1)
    clear hsn1
    go_wp2_with fail
    refine wp_region_held_drew (S := (fun w' => Below wr.heap.size wr w')) (by kernel_rfl) (Below.refl _ _).drew (fun hHeld => ?_)
    refine takeH 0 ?_
    refine takeH 1 ?_
    refine takeH 2 ?_
    refine takeH 3 ?_
    refine takeH 4 ?_
    refine takeH 5 ?_
    refine takeH 6 ?_
    refine takeH 7 ?_
    refine takeH 8 ?_
    refine takeH 9 ?_
    refine takeH 10 ?_
    refine wpAnyH_done (by kernel_rfl) ?_ _
    have hB5 := hBr.trans (hHeld.mono hBr.size)
    clear hCF hHeld gRr
    go_wp2_with fail
    go_roundw
    case rel => exact ⟨j + 1, by omega, by go_num, hs2, hB5⟩
    case measure => first | (simp [intOf]; done) | (simp [intOf]; omega)
  ·obtain rfl : n = j := by omega
   have hlt' : ¬ (n : Int) < (n : Int) := by omega
   have hf := lh (show ans = (0, 0, 0) from by rw [← hans.out]; have h := hno.out; rw [hta.out] at h; rw [h]; rfl)
   obtain ⟨a0, b0⟩ := row_cell gRr 0
   obtain ⟨a1, b1⟩ := row_cell gRr 1
   obtain ⟨a2, b2⟩ := row_cell gRr 2
   obtain ⟨d0, d1, d2⟩ := st3_at (x' := .int .i64 0) (y' := .int .i64 0) (z' := .int .u64 0) gRr
   have hBe := ((hBw.setCell (p := ⟨w.heap.size, 0, none⟩) (Nat.le_refl _) (.int .i64 0)).setCell (p := ⟨w.heap.size, 1, none⟩) (Nat.le_refl _) (.int .i64 0)).setCell (p := ⟨w.heap.size, 2, none⟩) (Nat.le_refl _) (.int .u64 0)
   go_wp2_with fail
   refine bodyPost_ret (v := .agg #[.int .i64 0, .int .i64 0, .int .u64 0]) (by simp [results, Tryz.results19, go_sem, d0, d1, d2]) rfl ⟨by rw [hf.out]; rfl, hBe⟩
end Go.Proofs.YtdmmbnnejbmdpaaGreatDoor
end
