/-
  Part of the proof of SoundTells,SoundGiven.
-/
import Derived.Test.YtdmmbnnejbmdpaaGreatDoorVu939
import Derived.Test.YtdmmbnnejbmdpaaGreatDoorVu941
import Derived.Test.YtdmmbnnejbmdpaaGreatDoorVu942
import Derived.Test.YtdmmbnnejbmdpaaGreatDoorVu949
import Derived.Test.YtdmmbnnejbmdpaaGreatDoorVu90
set_option maxRecDepth 10000
set_option maxHeartbeats 4000000
set_option linter.unusedVariables false
set_option linter.unusedSimpArgs false
section
namespace Go.Proofs.YtdmmbnnejbmdpaaGreatDoor
open Go.Lib Go.RowKit Go.ChangeShapes Go.WideShapes Go.Deep Go.Shelf
structure SpS (w0 : World) (C0 : Nat) (sc : Array Value) (base B N c : Nat) (X : List Nat) (w : World) : Prop where
 o : OwnU w base (.slice (some ⟨B, 0, none⟩) N c) X
 l : X.length = N
 s : HB w C0 sc 27
 below : Below w0.heap.size w0 w
 hb0 : w0.heap.size ≤ base
theorem SpS.keep {w0 : World} {C0 : Nat} {sc : Array Value} {base B N c : Nat} {X : List Nat} {w w1 : World} (h : SpS w0 C0 sc base B N c X w) (hb : Below w.heap.size w w1) : SpS w0 C0 sc base B N c X w1 :=
 ⟨h.o.keep hb, h.l, h.s.keep hb, h.below.trans (hb.mono h.below.size), h.hb0⟩
theorem SpS.base {w0 : World} {C0 : Nat} {sc : Array Value} {base B N c : Nat} {X : List Nat} {w : World} (h : SpS w0 C0 sc base B N c X w) : w0.heap.size ≤ B := Nat.le_trans h.hb0 (World.ownsRow.lt h.o B rfl).1
theorem SpS.set {w0 : World} {C0 : Nat} {sc : Array Value} {base B N c : Nat} {X : List Nat} {w : World} (h : SpS w0 C0 sc base B N c X w) (i y : Nat) (hi : i < N) : SpS w0 C0 sc base B N c (X.set i y) (w.setCell ⟨B, i, none⟩ (.int .u64 (y : Nat))) :=
 ⟨h.o.set h.l hi, by rw [List.length_set]; exact h.l, (heap_setCell_other w ⟨B, i, none⟩ C0 _ (h.s.row_ne9 h.o (by decide))).trans h.s, h.below.setCell (p := ⟨B, i, none⟩) h.base _, h.hb0⟩
theorem SpS.drewL {w0 : World} {C0 : Nat} {sc : Array Value} {base B N c i : Nat} {X : List Nat} {y : Value} {w : World} (h : SpS w0 C0 sc base B N c X (w.setCell ⟨B, i, none⟩ y)) : SpS w0 C0 sc base B N c X (w.drew.setCell ⟨B, i, none⟩ y) := h.keep (Below.refl _ _).drew
theorem spoil_WL : ∀ (l : List (Nat × Nat)) {X : List Nat}, WL X → (∀ x ∈ l, x.2 < 18446744073709551616) → WL (l.foldl spoilS X)
 | [], X, h, _ => h
 | y :: l, X, h, hl => by
   rw [List.foldl_cons]
   exact spoil_WL l (h.setN _ _ (hl y (List.mem_cons_self ..))) (fun x hx => hl x (List.mem_cons_of_mem _ hx))
end Go.Proofs.YtdmmbnnejbmdpaaGreatDoor
end
section
namespace Go.Proofs.YtdmmbnnejbmdpaaGreatDoor
open Go.Lib Go.RowKit Go.ChangeShapes Go.WideShapes Go.Deep Go.Shelf
def RS : Prop := ∀ (v : Value) (I : List Nat) (w : World), Lw w → WL I → KL .u64 w v I → I.length ≤ 800 → Calls Tryz.prog 14 #[v] w fun e w' => e = .returned (.int .i64 (if soundB I = true then 0 else 7)) ∧ Below w.heap.size w w'
theorem objL_8 {I : List Nat} (h : 0 < (objL I).length) : 8 < I.length := by
 unfold objL at h
 split at h
 ·rename_i hs
  have hq := (sound_parts hs).1
  unfold sOk at hq
  simp only [Bool.and_eq_true] at hq
  have := pool_size hq.2.1
  omega
 ·exact absurd h (by decide)
theorem objL_bd {I : List Nat} (h8 : I.length ≤ 800) : (objL I).length ≤ 1000 ∧ (∀ x, x ∈ objL I → x.2.length ≤ 1000000) ∧ ∀ x, x ∈ objL I → x.1.1 < 1000000 := by
 have hx : ∀ x, x ∈ objL I → x.1.1 + 2 + x.2.length ≤ I.length := fun x hx => by
  obtain ⟨k, hk, rfl⟩ := List.getElem_of_mem hx
  have q := (apart_at h8 hk).2.2.1
  rw [List.getD_eq_getElem?_getD, List.getElem?_eq_getElem hk] at q
  exact q
 refine ⟨?_, fun x h => by have := hx x h; omega, fun x h => by have := hx x h; omega⟩
 unfold objL
 split
 ·rename_i hs
  have hq := (sound_parts hs).1
  unfold sOk at hq
  simp only [Bool.and_eq_true] at hq
  have h1 := bl_len hq.2.1
  have h2 := pool_size hq.2.1
  rw [List.length_map]
  unfold objsP
  split
  ·rw [List.length_map]; omega
  ·exact Nat.zero_le _
 ·exact Nat.zero_le _
theorem soundTells (s : Sk) (vT vY vE vF : Value) (vL : Value) (l : List (Nat × Nat)) (hRS : RS) (w : World) (hw : Lw w) (hM : SkM w vT vY vE vF s) (hB : SkB s) (hLs : EL 2 eSl w vL l) (hLk : ∀ x ∈ l, x.1 < 65536 ∧ x.2 < 18446744073709551616) :
 Calls Tryz.prog 3 #[skV s vT vY vE vF, vL] w fun e w' => e = .returned (.bool true) ∧ Below w.heap.size w w' := by
 obtain ⟨AT, cT, AY, cY, AE, cE, AF, cF, rfl, rfl, rfl, rfl⟩ := hM.sl
 have hAw := lh (fun w1 (hb : Below w.heap.size w w1) => awake16 w1 (hw.keep hb))
 have hFe := lh (fun w1 => few16 s AT AY AE AF s.tiles.length cT s.types.length cY s.less.length cE s.fill.length cF w1 rfl rfl rfl rfl)
 have hSt := lh (fun w1 (hb : Below w.heap.size w w1) (hf : fewS s = true) => Stocked_any s _ _ _ _ w1 (hw.keep hb) (hM.keep hb) hB hf)
 obtain ⟨hg, hgN, hgat, hL1, hL3, hG1, hG8⟩ := gv_geo (gvS s)
 have hslen := stockL_len s
 have hNN : gvN (gvS s) = 10 + 73 * gvL (gvS s) + 33 * gvG (gvS s) := rfl
 obtain ⟨nL, hnL⟩ : ∃ n, l.length = n := ⟨_, rfl⟩
 obtain ⟨AL, cL, rfl, -⟩ := EL.form hLs hnL
 have hSp := lh (fun w1 (hb : Below w.heap.size w w1) k (hk : k < nL) => by
  obtain ⟨A9, c9, hv9, h9⟩ := EL.form hLs hnL
  obtain ⟨g, off, hA9, h2, h3, h4, h5⟩ := h9 w1 k hb hk
  exact (show ∃ g off, AL = some ⟨g, off, none⟩ ∧ nL ≤ cL ∧ g < w1.heap.size ∧ w1.cell? ⟨g, off + k * 2, none⟩ = some (.int .u16 ((l.getD k default).1 : Nat)) ∧ w1.cell? ⟨g, off + k * 2 + 1, none⟩ = some (.int .u64 ((l.getD k default).2 : Nat)) ∧ (l.getD k default).1 < 65536 from by
   cases hv9
   exact ⟨g, off, hA9, h2, h4, h5 0 (by decide), h5 1 (by decide), (hLk _ (by rw [List.getD_eq_getElem?_getD, List.getElem?_eq_getElem (by rw [hnL]; exact hk)]; exact List.getElem_mem _)).1⟩))
 have hSs := lh (fun (X : List Nat) k (hk : k < nL) => show (l.take (k + 1)).foldl spoilS X = spoilS ((l.take k).foldl spoilS X) (l.getD k default) from by
  rw [List.take_succ_eq_append_getElem (by rw [hnL]; exact hk), List.foldl_append, List.getD_eq_getElem?_getD, List.getElem?_eq_getElem (by rw [hnL]; exact hk)]; rfl)
 have hWY := lh (fun (h : WL (stockL s)) => spoil_WL l h (fun x hx => (hLk x hx).2))
 have hwk := lh (fun w1 (hb : Below w.heap.size w w1) => hw.keep hb)
 obtain ⟨X, hX⟩ : ∃ X, stockL s = X := ⟨_, rfl⟩
 obtain ⟨N, hN⟩ : ∃ N, gvN (gvS s) = N := ⟨_, rfl⟩
 obtain ⟨L, hL⟩ : ∃ L, gvL (gvS s) = L := ⟨_, rfl⟩
 obtain ⟨G, hG⟩ : ∃ G, gvG (gvS s) = G := ⟨_, rfl⟩
 rw [hX] at hSt hslen hWY
 rw [hN] at hslen
 rw [hN, hL, hG] at hNN
 rw [hG] at hG1 hG8
 rw [hL] at hL1 hL3
 have hN1 : 116 ≤ N := by omega
 have hN2 : N ≤ 800 := by omega
 clear hNN hgN hgat hg
 obtain ⟨nT, hnT⟩ : ∃ n, s.tiles.length = n := ⟨_, rfl⟩
 obtain ⟨nY, hnY⟩ : ∃ n, s.types.length = n := ⟨_, rfl⟩
 obtain ⟨nE, hnE⟩ : ∃ n, s.less.length = n := ⟨_, rfl⟩
 obtain ⟨nF, hnF⟩ : ∃ n, s.fill.length = n := ⟨_, rfl⟩
 rw [hnT, hnY, hnE, hnF] at hFe hSt
 rw [hnT, hnY, hnE, hnF]
 unfold skV at hFe hSt ⊢
 replace hX := lh hX
 replace hN := lh hN
 replace hL := lh hL
 replace hG := lh hG
 clear hM hB hw hLs hLk
 have hb0 := bZ w (.cells #[.int .u8 (s.a : Nat), .int .u8 (s.b : Nat), .slice AT nT cT, .slice AY nY cY, .slice AE nE cE, .int .u32 (s.ep : Nat), .int .u8 (s.root : Nat), .slice AF nF cF] 27)
 have gS := HB.new w #[.int .u8 (s.a : Nat), .int .u8 (s.b : Nat), .slice AT nT cT, .slice AY nY cY, .slice AE nE cE, .int .u32 (s.ep : Nat), .int .u8 (s.root : Nat), .slice AF nF cF] 27
 obtain ⟨wb1, hwb1⟩ : ∃ x, w.alloc (.cells #[.int .u8 (s.a : Nat), .int .u8 (s.b : Nat), .slice AT nT cT, .slice AY nY cY, .slice AE nE cE, .int .u32 (s.ep : Nat), .int .u8 (s.root : Nat), .slice AF nF cF] 27) = x := ⟨_, rfl⟩
 have hswb1 : wb1.heap.size = w.heap.size + 1 := by rw [← hwb1]; simp
 rw [hwb1] at hb0 gS
 obtain ⟨C0, hC0⟩ : ∃ C, w.heap.size = C := ⟨_, rfl⟩
 have hB : Below w.heap.size w wb1 := hb0
 rw [hC0] at gS
 clear hb0
 go_enter Tryz.func3, Tryz.ntmps3
 subst hwb1
 go_wp2_with fail
 refine (hAw.out _ hB).mono ?_
 rintro e w1 ⟨rfl, hb1⟩
 have hB1 := hB.trans (hb1.mono hB.size)
 have gS1 := gS.keep hb1
 clear hAw hb1 hB gS
 have p0 := (row_cell gS1 0).1
 have p1 := (row_cell gS1 1).1
 have p2 := (row_cell gS1 2).1
 have p3 := (row_cell gS1 3).1
 have p4 := (row_cell gS1 4).1
 have p5 := (row_cell gS1 5).1
 have p6 := (row_cell gS1 6).1
 have p7 := (row_cell gS1 7).1
 go_wp2_with fail
 refine (hFe.out _).mono ?_
 rintro e w2 ⟨rfl, hb2⟩
 have hB2 := hB1.trans (hb2.mono hB1.size)
 have gS2 := gS1.keep hb2
 clear p0 p1 p2 p3 p4 p5 p6 p7 hb2 hB1 gS1 hFe
 cases hfew : fewS s with
 | false =>
   go_wp2_with fail
   go_ret
   exact ⟨rfl, hB2⟩
 | true =>
   by_cases hl4 : nL ≤ 4
   case neg =>
    have hl4' : (4 : Int) < (nL : Int) := by omega
    go_wp2_with fail
    go_ret
    exact ⟨rfl, hB2⟩
   have hl4' : ¬ (4 : Int) < (nL : Int) := by omega
   have hSt2 := hSt.out _ hB2 hfew
   clear hSt hfew
   have p0 := (row_cell gS2 0).1
   have p1 := (row_cell gS2 1).1
   have p2 := (row_cell gS2 2).1
   have p3 := (row_cell gS2 3).1
   have p4 := (row_cell gS2 4).1
   have p5 := (row_cell gS2 5).1
   have p6 := (row_cell gS2 6).1
   have p7 := (row_cell gS2 7).1
   go_wp2_with fail
   refine hSt2.mono ?_
   rintro e w3 ⟨v3, rfl, hO3, hW, hb3⟩
   have hB3 := hB2.trans (hb3.mono hB2.size)
   have gS3 := gS2.keep hb3
   obtain ⟨A3, c3, hv3, hf3⟩ := OwnU.form hO3
   rw [hslen] at hv3 hf3
   cases hv3
   obtain ⟨B, rfl, -, -⟩ := hf3 (by omega)
   have hk3 := hO3.kl
   have hc3 : N ≤ c3 := by
    obtain ⟨A9, c9, hv9, h9⟩ := hk3.form hslen
    cases hv9
    obtain ⟨_, _, _, h2, _⟩ := h9 w3 0 (Below.refl _ _) (by omega)
    exact h2
   have hbs : w.heap.size ≤ w2.heap.size := hB2.size
   clear p0 p1 p2 p3 p4 p5 p6 p7 hSt2 hb3 hf3 gS2 hB2
   obtain ⟨Bs, hBs⟩ : ∃ b, w2.heap.size = b := ⟨_, rfl⟩
   rw [hBs] at hO3 hbs
   clear hBs
   have hS0 : SpS w C0 #[.int .u8 (s.a : Nat), .int .u8 (s.b : Nat), .slice AT nT cT, .slice AY nY cY, .slice AE nE cE, .int .u32 (s.ep : Nat), .int .u8 (s.root : Nat), .slice AF nF cF] Bs B N c3 X w3 := ⟨hO3, hslen, gS3, hB3, hbs⟩
   clear hO3 hk3 gS3 hB3
   go_wp2_with fail
   go_loopw [8] (fun i wq => ∃ (k : Nat), k ≤ nL ∧ i = .int .i64 (k : Nat) ∧ SpS w C0 #[.int .u8 (s.a : Nat), .int .u8 (s.b : Nat), .slice AT nT cT, .slice AY nY cY, .slice AE nE cE, .int .u32 (s.ep : Nat), .int .u8 (s.root : Nat), .slice AF nF cF] Bs B N c3 ((l.take k).foldl spoilS X) wq) (fun i _ => nL + 1 - (intOf i).toNat)
   case atStart => exact ⟨0, Nat.zero_le _, rfl, hS0⟩
   case round =>
    obtain ⟨k, hk, rfl, hS2⟩ := hrel
    clear hS0
    by_cases hltk : k < nL
    ·have hltk' : (k : Int) < (nL : Int) := by omega
     obtain ⟨gs, os, rfl, hcs, hgs, d0, d1, d2⟩ := hSp.out wr hS2.below k hltk
     have hss := hSs.out X k hltk
     obtain ⟨X9, hX9⟩ : ∃ X9, (l.take k).foldl spoilS X = X9 := ⟨_, rfl⟩
     rw [hX9] at hS2 hss
     obtain ⟨at', hat⟩ : ∃ a, (l.getD k default).1 = a := ⟨_, rfl⟩
     obtain ⟨vv, hvv⟩ : ∃ a, (l.getD k default).2 = a := ⟨_, rfl⟩
     obtain ⟨m5, hm5⟩ : ∃ m, at' % N = m := ⟨_, rfl⟩
     have hss2 : (l.take (k + 1)).foldl spoilS X = X9.set m5 vv := by rw [hss]; unfold spoilS; rw [hS2.l, hat, hvv, hm5]
     rw [hat] at d0 d2
     rw [hvv] at d1
     have hm5N : m5 < N := by rw [← hm5]; exact Nat.mod_lt _ (by omega)
     have r1 : (at' : Int) % (N : Int) = (m5 : Int) := by rw [← hm5]; rfl
     have r2 : (at' : Int).tmod (N : Int) = (m5 : Int) := by rw [Int.tmod_eq_emod_of_nonneg (by omega)]; exact r1
     have r3 : ¬ (N : Int) = 0 := by omega
     have r3' : ¬ N = 0 := by omega
     have r4 : IntKind.i64.wrap (at' : Int) = (at' : Int) := wrapQ _ (by omega) (by omega)
     have r5 : (m5 : Int) < (N : Int) := by omega
     have hSn := hS2.set m5 vv hm5N
     rw [← hss2] at hSn
     replace hss2 := lh hss2
     replace hX9 := lh hX9
     replace hat := lh hat
     replace hvv := lh hvv
     replace hm5 := lh hm5
     obtain ⟨Xd, hXd⟩ : ∃ x, X9.getD m5 0 = x := ⟨_, rfl⟩
     have hCF := lh (fun w' (hb : Below wr.heap.size wr w') => show (w'.cell? ⟨gs, os + k * 2, none⟩ = some (.int .u16 (at' : Nat)) ∧ w'.cell? ⟨gs, os + k * 2 + 1, none⟩ = some (.int .u64 (vv : Nat))) ∧ (w'.cell? ⟨B, m5, none⟩ = some (.int .u64 (Xd : Nat)) ∧ w'.frozen? ⟨B, m5, none⟩ = false) from ⟨⟨((bcell hb).1 _ _ hgs).trans d0, ((bcell hb).1 _ _ hgs).trans d1⟩, by rw [← hXd]; exact (hS2.keep hb).o.cell hS2.l hm5N⟩)
     replace hXd := lh hXd
     clear d0 d1 hss
     go_wp2_with fail
     refine wp_region_tail (S := (fun w' => Below wr.heap.size wr w')) (n := 16) (by kernel_rfl) (Below.refl _ _).drew (fun hHeld hInv => ?_) (by decide)
     refine takeHS 0 hInv ?_; clear hInv; intro hInv
     refine takeHS 1 hInv ?_; clear hInv; intro hInv
     refine takeHS 2 hInv ?_; clear hInv; intro hInv
     refine takeHS 3 hInv ?_; clear hInv; intro hInv
     refine takeHS 4 hInv ?_; clear hInv; intro hInv
     refine takeHS 5 hInv ?_; clear hInv; intro hInv
     refine takeHS 6 hInv ?_; clear hInv; intro hInv
     refine takeHS 7 hInv ?_; clear hInv; intro hInv
     refine takeHS 8 hInv ?_; clear hInv; intro hInv
     refine takeHS 9 hInv ?_; clear hInv; intro hInv
     refine takeHS 10 hInv ?_; clear hInv; intro hInv
     refine takeHS 11 hInv ?_; clear hInv; intro hInv
     refine takeHS 12 hInv ?_; clear hInv; intro hInv
     refine takeHS 13 hInv ?_; clear hInv; intro hInv
     refine takeHS 14 hInv ?_; clear hInv; intro hInv
     refine takeHS 15 hInv ?_; clear hInv; intro hInv
     refine lastS 16 rfl (by decide) (by kernel_rfl) (fun K hK => ?_)
     have zz := hCF.out _ hHeld
     obtain ⟨⟨v0, v1⟩, v3, v4⟩ := zz
     go_simp
     refine hK.out _ _ ?_
     clear hK K
     try simp only [Act.put,sA,sB,sC]
     refine wpAnyS_done (by kernel_rfl) ?_ _
     clear hCF hInv hHeld
     go_wp2_with fail
     go_roundw
     case rel => exact ⟨k + 1, by omega, by go_num, hSn.drewL⟩
     case measure => first | (simp [intOf]; done) | (simp [intOf]; omega)
    ·obtain rfl : nL = k := by omega
     rw [List.take_of_length_le (by rw [hnL]; exact Nat.le_refl _)] at hS2
     have hltk' : ¬ (nL : Int) < (nL : Int) := by omega
     obtain ⟨Y, hY⟩ : ∃ Y, l.foldl spoilS X = Y := ⟨_, rfl⟩
     rw [hY] at hS2
     have hW9 := hWY.out hW.out
     rw [hY] at hW9
     have hY8 : Y.length ≤ 800 := by rw [hS2.l]; omega
     obtain ⟨er, her⟩ : ∃ r : Int, (if soundB Y = true then 0 else 7) = r := ⟨_, rfl⟩
     obtain ⟨ro, hro⟩ : ∃ o, rootO Y = o := ⟨_, rfl⟩
     obtain ⟨O, hO⟩ : ∃ O, objL Y = O := ⟨_, rfl⟩
     have hOl : O.length ≤ 1000 ∧ (∀ x, x ∈ O → x.2.length ≤ 1000000) ∧ ∀ x, x ∈ O → x.1.1 < 1000000 := by
      rw [← hO]
      exact objL_bd hY8
     have hS1 := lh (fun w1 (hb : Below wr.heap.size wr w1) => show Calls Tryz.prog 13 #[.slice (some ⟨B, 0, none⟩) N c3] w1 (fun e w' => e = .returned (.int .i64 er) ∧ Below w1.heap.size w1 w') from by rw [← her]; exact sound_any _ _ w1 (hwk.out _ (hS2.below.trans (hb.mono hS2.below.size))) hW9 ((hS2.o.kl).keep hb) hY8)
     have hT2 := lh (fun w1 (hb : Below wr.heap.size wr w1) => show Calls Tryz.prog 14 #[.slice (some ⟨B, 0, none⟩) N c3] w1 (fun e w' => e = .returned (.int .i64 er) ∧ Below w1.heap.size w1 w') from by rw [← her]; exact hRS _ _ w1 (hwk.out _ (hS2.below.trans (hb.mono hS2.below.size))) hW9 ((hS2.o.kl).keep hb) hY8)
     have hO1 := lh (fun w1 (hb : Below wr.heap.size wr w1) => show Calls Tryz.prog 16 #[.slice (some ⟨B, 0, none⟩) N c3] w1 (fun e w' => ∃ v', e = .returned v' ∧ OJO w' w1.heap.size v' O ∧ Below w1.heap.size w1 w') from by rw [← hO]; exact Objects_any _ _ w1 (hwk.out _ (hS2.below.trans (hb.mono hS2.below.size))) hW9 ((hS2.o.kl).keep hb) hY8)
     have hO2 := lh (fun w1 (hb : Below wr.heap.size wr w1) => show Calls Tryz.prog 17 #[.slice (some ⟨B, 0, none⟩) N c3] w1 (fun e w' => ∃ v', e = .returned v' ∧ OJO w' w1.heap.size v' O ∧ Below w1.heap.size w1 w') from by
      rw [← hO]
      exact refObjects_of _ _ w1 (hwk.out _ (hS2.below.trans (hb.mono hS2.below.size))) hW9 ((hS2.o.kl).keep hb) hY8 (fun w2 hb2 => hRS _ _ w2 ((hwk.out _ (hS2.below.trans (hb.mono hS2.below.size))).keep hb2) hW9 (((hS2.o.kl).keep hb).keep hb2) hY8))
     have hR1 := lh (fun w1 (hb : Below wr.heap.size wr w1) => show Calls Tryz.prog 18 #[.slice (some ⟨B, 0, none⟩) N c3] w1 (fun e w' => e = .returned (.agg #[.int .i64 (ro.1 : Nat), .int .i64 (ro.2.1 : Nat), .int .u64 (ro.2.2 : Nat)]) ∧ Below w1.heap.size w1 w') from by rw [← hro]; exact Root_any _ _ w1 (hwk.out _ (hS2.below.trans (hb.mono hS2.below.size))) hW9 ((hS2.o.kl).keep hb) hY8)
     have hR2 := lh (fun w1 (hb : Below wr.heap.size wr w1) => show Calls Tryz.prog 19 #[.slice (some ⟨B, 0, none⟩) N c3] w1 (fun e w' => e = .returned (.agg #[.int .i64 (ro.1 : Nat), .int .i64 (ro.2.1 : Nat), .int .u64 (ro.2.2 : Nat)]) ∧ Below w1.heap.size w1 w') from by
      rw [← hro, rootO_J, hO]
      exact refRoot_of _ _ O w1 ((hS2.o.kl).keep hb) (fun q => by rw [← hO] at q; exact objL_8 q) hOl.1 hOl.2.2 (fun w2 hb2 => hO2.out w2 (hb.trans (hb2.mono hb.size))))
     replace hOl := lh hOl
     clear her hro hO hRS
     have hBw := hS2.below
     replace hW9 := lh hW9
     clear hSp hSs hWY hW hY hS2
     go_wp2_with fail
     refine (hS1.out _ (Below.refl _ _)).mono ?_
     rintro e a1 ⟨rfl, hb1⟩
     go_wp2_with fail
     refine (hT2.out _ hb1).mono ?_
     rintro e a2 ⟨rfl, hb2⟩
     have hc2 := hb1.trans (hb2.mono hb1.size)
     clear hb1 hb2 hS1 hT2
     go_wp2_with fail
     refine (hO1.out _ hc2).mono ?_
     rintro e a3 ⟨v3', rfl, ho3, hb3⟩
     have hc3 := hc2.trans (hb3.mono hc2.size)
     clear hc2 hb3 hO1
     go_wp2_with fail
     refine (hO2.out _ hc3).mono ?_
     rintro e a4 ⟨v4', rfl, ho4, hb4⟩
     have hc4 := hc3.trans (hb4.mono hc3.size)
     have hSm := Same_any _ _ _ _ _ _ (ho3.keep hb4) ho4 hOl.out.1 hOl.out.2.1
     clear hc3 hb4 ho3 ho4 hO2
     go_wp2_with fail
     refine hSm.mono ?_
     rintro e a5 ⟨rfl, hb5⟩
     have hc5 := hc4.trans (hb5.mono hc4.size)
     clear hc4 hb5 hSm
     go_wp2_with fail
     refine (hR1.out _ hc5).mono ?_
     rintro e a6 ⟨rfl, hb6⟩
     have hc6 := hc5.trans (hb6.mono hc5.size)
     clear hc5 hb6 hR1
     go_wp2_with fail
     refine (hR2.out _ hc6).mono ?_
     rintro e a7 ⟨rfl, hb7⟩
     have hBe := hBw.trans ((hc6.trans (hb7.mono hc6.size)).mono hBw.size)
     clear hc6 hb7 hR2
     go_wp2_with fail
     go_ret
     exact ⟨by first | rfl | simp, hBe⟩
theorem soundGiven (g : Gx) (hRS : RS) (w : World) (hw : Lw w) (hg : GOk w g) :
 Calls Tryz.prog 4 #[gxV g] w fun e w' => e = .returned (.bool true) ∧ Below w.heap.size w w' := by
 obtain ⟨⟨vT, vF, vI, vS⟩, xs, p⟩ := g
 obtain ⟨hM, hB⟩ := hg
 simp only [] at hM hB
 obtain ⟨AT, nT, cT, AF, nF, cF, AI, nI, cI, AS, nS, cS, rfl, rfl, rfl, rfl⟩ := hM.sl
 have hA := bZ w (.cells #[.int .u8 (p.a : Nat), .int .u8 (p.b : Nat), .slice AT nT cT, .slice AF nF cF, .slice AI nI cI, .int .u64 (p.root : Nat), .int .u64 (p.epoch : Nat), .slice AS nS cS] 47)
 have gA := HB.new w #[.int .u8 (p.a : Nat), .int .u8 (p.b : Nat), .slice AT nT cT, .slice AF nF cF, .slice AI nI cI, .int .u64 (p.root : Nat), .int .u64 (p.epoch : Nat), .slice AS nS cS] 47
 obtain ⟨wa, hwa⟩ : ∃ x, w.alloc (.cells #[.int .u8 (p.a : Nat), .int .u8 (p.b : Nat), .slice AT nT cT, .slice AF nF cF, .slice AI nI cI, .int .u64 (p.root : Nat), .int .u64 (p.epoch : Nat), .slice AS nS cS] 47) = x := ⟨_, rfl⟩
 rw [hwa] at hA gA
 have hAw := awake16 wa (hw.keep hA)
 have hFe := lh (fun w1 (hb : Below w.heap.size w w1) => few_any15 p _ _ _ _ xs w1 (hM.keep hb))
 have hMk := lh (fun w1 (hb : Below w.heap.size w w1) (hf : fewB p = true) => make_any p _ _ _ _ xs w1 (hw.keep hb) (hM.keep hb) hB hf)
 obtain ⟨hl1, hl2⟩ := gv_len p
 obtain ⟨N, hN⟩ : ∃ N, gvN p = N := ⟨_, rfl⟩
 rw [hN] at hl1 hl2
 have hN116 : 116 ≤ N := by have := gv_geo p; have : gvN p = 10 + 73 * gvL p + 33 * gvG p := rfl; omega
 have hwk := lh (fun w1 (hb : Below w.heap.size w w1) => hw.keep hb)
 obtain ⟨I, hI⟩ : ∃ I, makeL p = I := ⟨_, rfl⟩
 rw [hI] at hl1 hMk
 replace hI := lh hI
 replace hN := lh hN
 show Calls Tryz.prog _ #[.agg #[.int .u8 (p.a : Nat), .int .u8 (p.b : Nat), .slice AT nT cT, .slice AF nF cF, .slice AI nI cI, .int .u64 (p.root : Nat), .int .u64 (p.epoch : Nat), .slice AS nS cS]] w _
 unfold gvV at hFe hMk
 clear hM hB hw
 go_enter Tryz.func4, Tryz.ntmps4
 subst hwa
 go_wp2_with fail
 refine hAw.mono ?_
 rintro e w1 ⟨rfl, hb1⟩
 have hA1 := hA.trans (hb1.mono hA.size)
 have gA1 := gA.keep hb1
 have p0 := (row_cell gA1 0).1
 have p1 := (row_cell gA1 1).1
 have p2 := (row_cell gA1 2).1
 have p3 := (row_cell gA1 3).1
 have p4 := (row_cell gA1 4).1
 have p5 := (row_cell gA1 5).1
 have p6 := (row_cell gA1 6).1
 have p7 := (row_cell gA1 7).1
 clear hAw gA hA hb1
 go_wp2_with fail
 refine (hFe.out _ hA1).mono ?_
 rintro e w2 ⟨rfl, hb2⟩
 have hA2 := hA1.trans (hb2.mono hA1.size)
 have gA2 := gA1.keep hb2
 clear p0 p1 p2 p3 p4 p5 p6 p7 gA1 hA1 hb2
 have p0 := (row_cell gA2 0).1
 have p1 := (row_cell gA2 1).1
 have p2 := (row_cell gA2 2).1
 have p3 := (row_cell gA2 3).1
 have p4 := (row_cell gA2 4).1
 have p5 := (row_cell gA2 5).1
 have p6 := (row_cell gA2 6).1
 have p7 := (row_cell gA2 7).1
 cases hfew : fewB p with
 | false =>
   go_wp2_with fail
   go_ret
   exact ⟨rfl, hA2⟩
 | true =>
   have hMk2 := hMk.out _ hA2 hfew
   clear hMk hFe hfew
   go_wp2_with fail
   refine hMk2.mono ?_
   rintro e w3 ⟨v3, rfl, hO3, hW, hb3⟩
   have hA3 := hA2.trans (hb3.mono hA2.size)
   have hW9 : WL I := hW.out
   clear hMk2 p0 p1 p2 p3 p4 p5 p6 p7 hA2 gA2 hb3 hW
   have hI8 : I.length ≤ 800 := by omega
   obtain ⟨er, her⟩ : ∃ r : Int, (if soundB I = true then 0 else 7) = r := ⟨_, rfl⟩
   obtain ⟨ro, hro⟩ : ∃ o, rootO I = o := ⟨_, rfl⟩
   obtain ⟨O, hO⟩ : ∃ O, objL I = O := ⟨_, rfl⟩
   have hOl : O.length ≤ 1000 ∧ (∀ x, x ∈ O → x.2.length ≤ 1000000) ∧ ∀ x, x ∈ O → x.1.1 < 1000000 := by
    rw [← hO]
    exact objL_bd hI8
   have hS1 := lh (fun w1 (hb : Below w3.heap.size w3 w1) => show Calls Tryz.prog 13 #[v3] w1 (fun e w' => e = .returned (.int .i64 er) ∧ Below w1.heap.size w1 w') from by rw [← her]; exact sound_any _ _ w1 (hwk.out _ (hA3.trans (hb.mono hA3.size))) hW9 ((hO3.kl).keep hb) hI8)
   have hS2 := lh (fun w1 (hb : Below w3.heap.size w3 w1) => show Calls Tryz.prog 14 #[v3] w1 (fun e w' => e = .returned (.int .i64 er) ∧ Below w1.heap.size w1 w') from by rw [← her]; exact hRS _ _ w1 (hwk.out _ (hA3.trans (hb.mono hA3.size))) hW9 ((hO3.kl).keep hb) hI8)
   have hO1 := lh (fun w1 (hb : Below w3.heap.size w3 w1) => show Calls Tryz.prog 16 #[v3] w1 (fun e w' => ∃ v', e = .returned v' ∧ OJO w' w1.heap.size v' O ∧ Below w1.heap.size w1 w') from by rw [← hO]; exact Objects_any _ _ w1 (hwk.out _ (hA3.trans (hb.mono hA3.size))) hW9 ((hO3.kl).keep hb) hI8)
   have hO2 := lh (fun w1 (hb : Below w3.heap.size w3 w1) => show Calls Tryz.prog 17 #[v3] w1 (fun e w' => ∃ v', e = .returned v' ∧ OJO w' w1.heap.size v' O ∧ Below w1.heap.size w1 w') from by
    rw [← hO]
    exact refObjects_of _ _ w1 (hwk.out _ (hA3.trans (hb.mono hA3.size))) hW9 ((hO3.kl).keep hb) hI8 (fun w2 hb2 => hRS _ _ w2 ((hwk.out _ (hA3.trans (hb.mono hA3.size))).keep hb2) hW9 (((hO3.kl).keep hb).keep hb2) hI8))
   have hR1 := lh (fun w1 (hb : Below w3.heap.size w3 w1) => show Calls Tryz.prog 18 #[v3] w1 (fun e w' => e = .returned (.agg #[.int .i64 (ro.1 : Nat), .int .i64 (ro.2.1 : Nat), .int .u64 (ro.2.2 : Nat)]) ∧ Below w1.heap.size w1 w') from by rw [← hro]; exact Root_any _ _ w1 (hwk.out _ (hA3.trans (hb.mono hA3.size))) hW9 ((hO3.kl).keep hb) hI8)
   have hR2 := lh (fun w1 (hb : Below w3.heap.size w3 w1) => show Calls Tryz.prog 19 #[v3] w1 (fun e w' => e = .returned (.agg #[.int .i64 (ro.1 : Nat), .int .i64 (ro.2.1 : Nat), .int .u64 (ro.2.2 : Nat)]) ∧ Below w1.heap.size w1 w') from by
    rw [← hro, rootO_J, hO]
    exact refRoot_of _ _ O w1 ((hO3.kl).keep hb) (fun q => by rw [← hO] at q; exact objL_8 q) hOl.1 hOl.2.2 (fun w2 hb2 => hO2.out w2 (hb.trans (hb2.mono hb.size))))
   replace hOl := lh hOl
   clear her hro hO hRS
   replace hW9 := lh hW9
   clear hO3
   go_wp2_with fail
   refine (hS1.out _ (Below.refl _ _)).mono ?_
   rintro e a1 ⟨rfl, hb1⟩
   go_wp2_with fail
   refine (hS2.out _ hb1).mono ?_
   rintro e a2 ⟨rfl, hb2⟩
   have hc2 := hb1.trans (hb2.mono hb1.size)
   clear hb1 hb2 hS1 hS2
   go_wp2_with fail
   refine (hO1.out _ hc2).mono ?_
   rintro e a3 ⟨v3', rfl, ho3, hb3⟩
   have hc3 := hc2.trans (hb3.mono hc2.size)
   clear hc2 hb3 hO1
   go_wp2_with fail
   refine (hO2.out _ hc3).mono ?_
   rintro e a4 ⟨v4', rfl, ho4, hb4⟩
   have hc4 := hc3.trans (hb4.mono hc3.size)
   have hSm := Same_any _ _ _ _ _ _ (ho3.keep hb4) ho4 hOl.out.1 hOl.out.2.1
   clear hc3 hb4 ho3 ho4 hO2
   go_wp2_with fail
   refine hSm.mono ?_
   rintro e a5 ⟨rfl, hb5⟩
   have hc5 := hc4.trans (hb5.mono hc4.size)
   clear hc4 hb5 hSm
   go_wp2_with fail
   refine (hR1.out _ hc5).mono ?_
   rintro e a6 ⟨rfl, hb6⟩
   have hc6 := hc5.trans (hb6.mono hc5.size)
   clear hc5 hb6 hR1
   go_wp2_with fail
   refine (hR2.out _ hc6).mono ?_
   rintro e a7 ⟨rfl, hb7⟩
   have hBe := hA3.trans ((hc6.trans (hb7.mono hc6.size)).mono hA3.size)
   clear hc6 hb7 hR2
   go_wp2_with fail
   go_ret
   exact ⟨by first | rfl | simp, hBe⟩
end Go.Proofs.YtdmmbnnejbmdpaaGreatDoor
end
section
namespace Go.Proofs.YtdmmbnnejbmdpaaGreatDoor
open Go.Lib Go.RowKit Go.ChangeShapes Go.WideShapes Go.Deep Go.Shelf
theorem refSound_any : RS := fun v I w hw hW hv hN8 => by
 cases hs : sOk I with
 | true =>
   obtain ⟨g, off, cap, rfl, hp⟩ := pool_of hw hW hv hN8 hs
   rw [← refS_sound I]
   exact refSound_t g off cap I.length (I.getD 3 0) I w hp hs
 | false =>
   rw [soundB_no hs]
   exact refSound_f v I w hv hN8 hs
end Go.Proofs.YtdmmbnnejbmdpaaGreatDoor
end
