/-
  Part of the proof of SoundApart,SoundTwins,SoundWords.
-/
import Derived.Test.YtdmmbnnejbmdpaaGreatDoorVt913
import Derived.Test.YtdmmbnnejbmdpaaGreatDoorVt938
import Derived.Test.YtdmmbnnejbmdpaaGreatDoorVt945
import Derived.Test.YtdmmbnnejbmdpaaGreatDoorVt947
import Derived.Test.YtdmmbnnejbmdpaaGreatDoorVt90
set_option maxRecDepth 10000
set_option maxHeartbeats 8000000
set_option linter.unusedVariables false
set_option linter.unusedSimpArgs false
section
namespace Go.Proofs.YtdmmbnnejbmdpaaGreatDoor
open Go.Lib Go.RowKit Go.ChangeShapes Go.WideShapes Go.Deep Go.Shelf
def k1 : Sk := { a := 0, b := 0, tiles := [33], types := [], less := [], ep := 0, root := 1, fill := [] }
theorem k1_few : fewS k1 = true := by decide
theorem k1_B : SkB k1 := ⟨by decide, by decide, fun x hx => by rw [List.mem_singleton.1 hx]; decide, fun x hx => (by cases hx), fun x hx => (by cases hx), by decide, by decide, fun x hx => (by cases hx)⟩
theorem k1_len : (stockL k1).length = 116 := by decide +kernel
theorem k1_s : soundB (stockL k1) = true := by decide +kernel
theorem k1_n : soundB ((stockL k1).take 100) = false := by decide +kernel
theorem k1_o : (objL (stockL k1)).length = 1 ∧ ((objL (stockL k1)).getD 0 default).1 = (84, 1, 1) := by decide +kernel
theorem k1_r : rootO (stockL k1) = (84, 1, 1) := by decide +kernel
theorem KL.one16 (w : World) (x : Nat) : KL .u16 (w.alloc (.cells #[.int .u16 (x : Nat)] (32 : Nat))) (.slice (some ⟨w.heap.size, 0, none⟩) 1 1) [x] := h_kl ((OwnE.lit 32 eH_len w [x] _ rfl (by simp)).el eH_len)
theorem awake16 (w : World) (hw : Lw w) : Calls Tryz.prog 10 #[] w fun e w' => e = .returned (.bool true) ∧ Below w.heap.size w w' := by
 have e1 := bZ w (.cells #[.int .u16 ((33 : Nat) : Int)] (32 : Nat))
 have hk := KL.one16 w 33
 obtain ⟨wa, hwa⟩ : ∃ x, w.alloc (.cells #[.int .u16 ((33 : Nat) : Int)] (32 : Nat)) = x := ⟨_, rfl⟩
 rw [hwa] at e1 hk
 have hSk := Stocked_any k1 (.slice (some ⟨w.heap.size, 0, none⟩) 1 1) (.slice none 0 0) (.slice none 0 0) (.slice none 0 0) wa (hw.keep e1) ⟨hk, ⟨none, 0, rfl, fun h => absurd h (by decide)⟩, ⟨none, 0, rfl, fun h => absurd h (by decide)⟩, ⟨none, 0, rfl, fun h => absurd h (by decide)⟩⟩ k1_B k1_few
 replace hSk : Calls Tryz.prog 12 #[.agg #[.int .u8 0, .int .u8 0, .slice (some ⟨w.heap.size, 0, none⟩) 1 1, .slice none 0 0, .slice none 0 0, .int .u32 0, .int .u8 1, .slice none 0 0]] wa (fun e w' => ∃ v', e = .returned v' ∧ OwnU w' wa.heap.size v' (stockL k1) ∧ Hid (WL (stockL k1)) ∧ Below wa.heap.size wa w') := hSk
 have i1 := k1_len
 have i2 := k1_s
 have i3 := k1_n
 obtain ⟨i4, i5⟩ := k1_o
 have i6 := k1_r
 generalize stockL k1 = X at *
 have hOb := lh (fun v w1 (h1 : Lw w1) (h2 : KL .u64 w1 v X) (h3 : WL X) => Objects_any v X w1 h1 h3 h2 (by omega))
 have hS1 := lh (fun v w1 (h1 : Lw w1) (h2 : KL .u64 w1 v X) (h3 : WL X) => show Calls Tryz.prog 13 #[v] w1 (fun e w' => e = .returned (.int .i64 0) ∧ Below w1.heap.size w1 w') from by
  have h := sound_any v X w1 h1 h3 h2 (by omega)
  rw [if_pos i2] at h
  exact h)
 have hS2 := lh (fun v w1 (h1 : Lw w1) (h2 : KL .u64 w1 v (X.take 100)) (h3 : WL X) => show Calls Tryz.prog 13 #[v] w1 (fun e w' => e = .returned (.int .i64 7) ∧ Below w1.heap.size w1 w') from by
  have h := sound_any v (X.take 100) w1 h1 (fun x hx => h3 x (List.mem_of_mem_take hx)) h2 (by rw [List.length_take]; omega)
  rw [i3] at h
  exact h)
 have hRo := lh (fun v w1 (h1 : Lw w1) (h2 : KL .u64 w1 v X) (h3 : WL X) => show Calls Tryz.prog 18 #[v] w1 (fun e w' => e = .returned (.agg #[.int .i64 84, .int .i64 1, .int .u64 1]) ∧ Below w1.heap.size w1 w') from by
  have h := Root_any v X w1 h1 h3 h2 (by omega)
  rw [i6] at h
  exact h)
 obtain ⟨i0, hi, hz0, hz1, hz2⟩ := info_parts infoU64
 generalize objL X = O at hOb i4 i5
 have hwk := lh (fun w1 (hb : Below w.heap.size w w1) => hw.keep hb)
 replace i1 := lh i1
 clear i2 i3 i6 hk hw
 go_enter Tryz.func10, Tryz.ntmps10
 subst hwa
 go_wp2_with fail
 refine hSk.mono ?_
 rintro e w1 ⟨v1, rfl, hO1, hW, hb1⟩
 have hB1 := e1.trans (hb1.mono e1.size)
 obtain ⟨A1, c1, hv1, hf1⟩ := OwnU.form hO1
 rw [i1.out] at hv1 hf1
 cases hv1
 obtain ⟨B, rfl, -, -⟩ := hf1 (by decide)
 have hk1 := hO1.kl
 have hcap : 100 ≤ c1 := by
  obtain ⟨A9, c9, hv9, h9⟩ := hk1.form i1.out
  cases hv9
  obtain ⟨_, _, _, h2, _⟩ := h9 w1 0 (Below.refl _ _) (by decide)
  omega
 have hOb1 := hOb.out _ w1 (hwk.out _ hB1) hk1 hW.out
 clear hSk e1 hb1 hf1 hO1 hOb
 go_wp2_with fail
 refine hOb1.mono ?_
 rintro e w2 ⟨v2, rfl, hJ, hb2⟩
 have hB2 := hB1.trans (hb2.mono hB1.size)
 have hk2 := hk1.keep hb2
 obtain ⟨xs, hx1, hx2⟩ := hJ
 have hxl : xs.length = 1 := by rw [hx2.1, i4]
 obtain ⟨A2, c2, rfl, hF⟩ := EL.form (hx1.el eJ_len) hxl
 obtain ⟨g2, o2, rfl, hc2, hg2, -, hcell⟩ := hF w2 0 (Below.refl _ _) (by decide)
 have hx0 := (hx2.2 0 (by rw [i4]; decide)).1
 rw [i5] at hx0
 generalize hxe : xs.getD 0 default = x0 at *
 obtain ⟨xa, xb, xc, xd⟩ := x0
 simp only [Prod.mk.injEq] at hx0
 obtain ⟨rfl, rfl, rfl⟩ := hx0
 have j0 : w2.cell? ⟨g2, o2, none⟩ = some (.int .i64 84) := hcell 0 (by decide)
 have j1 : w2.cell? ⟨g2, o2 + 1, none⟩ = some (.int .i64 1) := hcell 1 (by decide)
 have j2 : w2.cell? ⟨g2, o2 + 2, none⟩ = some (.int .u64 1) := hcell 2 (by decide)
 have hCF := lh (fun w' (hb : Below w2.heap.size w2 w') => show w'.cell? ⟨g2, o2, none⟩ = some (.int .i64 84) ∧ w'.cell? ⟨g2, o2 + 1, none⟩ = some (.int .i64 1) ∧ w'.cell? ⟨g2, o2 + 2, none⟩ = some (.int .u64 1) from
  ⟨by rw [(bcell hb).1 _ _ hg2]; exact j0, by rw [(bcell hb).1 _ _ hg2]; exact j1, by rw [(bcell hb).1 _ _ hg2]; exact j2⟩)
 have hcapI : (100 : Int) ≤ (c1 : Int) := by omega
 have hS1' := lh (fun w' (hb : Below w2.heap.size w2 w') => hS1.out _ w' (hwk.out _ (hB2.trans (hb.mono hB2.size))) (hk2.keep hb) hW.out)
 have hS2' := lh (fun w' (hb : Below w2.heap.size w2 w') => hS2.out (.slice (some ⟨B, 0, none⟩) 100 c1) w' (hwk.out _ (hB2.trans (hb.mono hB2.size))) (KL.take (hk2.keep hb) 100 (by rw [i1.out]; decide)) hW.out)
 have hRo' := lh (fun w' (hb : Below w2.heap.size w2 w') => hRo.out _ w' (hwk.out _ (hB2.trans (hb.mono hB2.size))) (hk2.keep hb) hW.out)
 clear hS1 hS2 hRo hOb1 hb2 hk1 hcell hF hx1 hx2 j0 j1 j2
 go_wp2_with fail
 refine wp_region_held_drew (S := (fun w' => Below w2.heap.size w2 w')) (by kernel_rfl) (Below.refl _ _).drew (fun hHeld => ?_)
 refine takeH 0 ?_
 refine oneL 1 rfl (by kernel_rfl) (fun K hK => ?_)
 go_simp
 refine (hS1'.out _ hHeld).mono ?_; rintro e w5 ⟨rfl, hb⟩
 refine hK.out _ _ (hHeld.trans (hb.mono hHeld.size)) (fun hHeld2 => ?_)
 clear hK K hHeld
 have hHeld := hHeld2
 clear hHeld2
 try simp only [Act.put,sA,sB,sC]
 refine takeH 2 ?_
 refine takeH 3 ?_
 refine takeH 4 ?_
 refine takeH 5 ?_
 refine oneL 6 rfl (by kernel_rfl) (fun K hK => ?_)
 go_simp
 refine (hS2'.out _ hHeld).mono ?_; rintro e w6 ⟨rfl, hb⟩
 refine hK.out _ _ (hHeld.trans (hb.mono hHeld.size)) (fun hHeld2 => ?_)
 clear hK K hHeld
 have hHeld := hHeld2
 clear hHeld2
 try simp only [Act.put,sA,sB,sC]
 refine takeH 7 ?_
 refine takeH 8 ?_
 refine takeH 9 ?_
 refine takeH 10 ?_
 refine takeH 11 ?_
 refine takeH 12 ?_
 refine takeH 13 ?_
 refine takeH 14 ?_
 refine takeH 15 ?_
 refine takeH 16 ?_
 refine takeH 17 ?_
 refine takeH 18 ?_
 refine takeH 19 ?_
 refine takeH 20 ?_
 refine takeH 21 ?_
 refine takeH 22 ?_
 refine takeH 23 ?_
 refine takeH 25 ?_
 refine takeH 26 ?_
 refine takeH 27 ?_
 refine takeH 28 ?_
 refine oneL 24 rfl (by kernel_rfl) (fun K hK => ?_)
 go_simp
 refine (hRo'.out _ hHeld).mono ?_; rintro e w7 ⟨rfl, hb⟩
 refine hK.out _ _ (hHeld.trans (hb.mono hHeld.size)) (fun hHeld2 => ?_)
 clear hK K hHeld
 have hHeld := hHeld2
 clear hHeld2
 try simp only [Act.put,sA,sB,sC]
 refine takeH 29 ?_
 refine takeH 30 ?_
 refine takeH 31 ?_
 refine wpAnyH_done (by kernel_rfl) ?_ _
 have hBe := hB2.trans (hHeld.mono hB2.size)
 go_wp2_with fail
 go_ret
 exact ⟨by first | rfl | simp, hBe⟩
end Go.Proofs.YtdmmbnnejbmdpaaGreatDoor
end
section
namespace Go.Proofs.YtdmmbnnejbmdpaaGreatDoor
open Go.Lib Go.RowKit Go.ChangeShapes Go.WideShapes Go.Deep Go.Shelf
structure SpS (w0 : World) (C0 : Nat) (sc : Array Value) (base B N c : Nat) (X : List Nat) (w : World) : Prop where
 o : OwnU w base (.slice (some ⟨B, 0, none⟩) N c) X
 l : X.length = N
 s : HB w C0 sc 27
 below : Below w0.heap.size w0 w
 hb0 : w0.heap.size ≤ base
theorem SpS.keep {w0 : World} {C0 : Nat} {sc : Array Value} {base B N c : Nat} {X : List Nat} {w w1 : World} (h : SpS w0 C0 sc base B N c X w) (hb : Below w.heap.size w w1) : SpS w0 C0 sc base B N c X w1 :=
 ⟨h.o.keep hb, h.l, h.s.keep hb, h.below.trans (hb.mono h.below.size), h.hb0⟩
theorem SpS.base {w0 : World} {C0 : Nat} {sc : Array Value} {base B N c : Nat} {X : List Nat} {w : World} (h : SpS w0 C0 sc base B N c X w) : w0.heap.size ≤ B := Nat.le_trans h.hb0 (World.ownsRow.lt h.o B rfl).1
theorem SpS.set {w0 : World} {C0 : Nat} {sc : Array Value} {base B N c : Nat} {X : List Nat} {w : World} (h : SpS w0 C0 sc base B N c X w) (i y : Nat) (hi : i < N) : SpS w0 C0 sc base B N c (X.set i y) (w.setCell ⟨B, i, none⟩ (.int .u64 (y : Nat))) :=
 ⟨h.o.set h.l hi, by rw [List.length_set]; exact h.l, (heap_setCell_other w ⟨B, i, none⟩ C0 _ (h.s.row_ne9 h.o (by decide))).trans h.s, h.below.setCell (p := ⟨B, i, none⟩) h.base _, h.hb0⟩
theorem SpS.drewL {w0 : World} {C0 : Nat} {sc : Array Value} {base B N c i : Nat} {X : List Nat} {y : Value} {w : World} (h : SpS w0 C0 sc base B N c X (w.setCell ⟨B, i, none⟩ y)) : SpS w0 C0 sc base B N c X (w.drew.setCell ⟨B, i, none⟩ y) := h.keep (Below.refl _ _).drew
theorem spoil_WL : ∀ (l : List (Nat × Nat)) {X : List Nat}, WL X → (∀ x ∈ l, x.2 < 18446744073709551616) → WL (l.foldl spoilS X)
 | [], X, h, _ => h
 | y :: l, X, h, hl => by
   rw [List.foldl_cons]
   exact spoil_WL l (h.setN _ _ (hl y (List.mem_cons_self ..))) (fun x hx => hl x (List.mem_cons_of_mem _ hx))
theorem objL_start {s : Sk} {l : List (Nat × Nat)} (hl : l.length ≤ 4) {k : Nat} (hk : k < (objL (l.foldl spoilS (stockL s))).length) (h8 : (l.foldl spoilS (stockL s)).length ≤ 800) : 10 + 73 * gvL (gvS s) + gvG (gvS s) ≤ ((objL (l.foldl spoilS (stockL s))).getD k default).1.1 := by
 have hs := (apart_at h8 hk).1
 unfold objL at hk ⊢
 rw [if_pos hs] at hk ⊢
 rw [List.length_map] at hk
 rw [List.getD_eq_getElem?_getD, List.getElem?_map, List.getElem?_eq_getElem hk]
 exact spoilt_start s l hl hs (List.getElem_mem hk)
theorem objL_none {I : List Nat} (h : soundB I = false) : objL I = [] := by unfold objL; rw [h]; rfl
theorem objL_len {I : List Nat} (hN8 : I.length ≤ 800) : (objL I).length ≤ 10000 := by
 unfold objL
 split
 ·rename_i h
  have hs := (sound_parts h).1
  unfold sOk at hs
  simp only [Bool.and_eq_true] at hs
  rw [List.length_map]
  exact objsP_len rfl hN8 hs.2.1
 ·exact Nat.zero_le _
theorem soundApart (s : Sk) (vT vY vE vF : Value) (vL : Value) (l : List (Nat × Nat)) (w : World) (hw : Lw w) (hM : SkM w vT vY vE vF s) (hB : SkB s) (hLs : EL 2 eSl w vL l) (hLk : ∀ x ∈ l, x.1 < 65536 ∧ x.2 < 18446744073709551616) :
 Calls Tryz.prog 6 #[skV s vT vY vE vF, vL] w fun e w' => e = .returned (.bool true) ∧ Below w.heap.size w w' := by
 obtain ⟨AT, cT, AY, cY, AE, cE, AF, cF, rfl, rfl, rfl, rfl⟩ := hM.sl
 have hAw := lh (fun w1 (hb : Below w.heap.size w w1) => awake16 w1 (hw.keep hb))
 have hFe := lh (fun w1 => few16 s AT AY AE AF s.tiles.length cT s.types.length cY s.less.length cE s.fill.length cF w1 rfl rfl rfl rfl)
 have hSt := lh (fun w1 (hb : Below w.heap.size w w1) (hf : fewS s = true) => Stocked_any s _ _ _ _ w1 (hw.keep hb) (hM.keep hb) hB hf)
 obtain ⟨hg, hgN, hgat, hL1, hL3, hG1, hG8⟩ := gv_geo (gvS s)
 have hslen := stockL_len s
 have hNN : gvN (gvS s) = 10 + 73 * gvL (gvS s) + 33 * gvG (gvS s) := rfl
 have hGe := lh (fun w1 => show Calls Tryz.prog 22 #[.agg #[.int .u8 (s.a : Nat), .int .u8 (s.b : Nat), .slice none 0 0, .slice none 0 0, .slice none 0 0, .int .u64 0, .int .u64 0, .slice none 0 0]] w1 (fun e w' => e = .returned (.agg #[.int .i64 (gvN (gvS s) : Nat), .int .i64 (gvL (gvS s) : Nat)]) ∧ Below w1.heap.size w1 w') from
  geom_any { a := s.a, b := s.b, tiles := [], fill := [], items := [], root := 0, epoch := 0, spoil := [] } none none none none 0 0 0 0 0 0 0 0 w1 ⟨hB.a, hB.b, fun x hx => (by cases hx), fun x hx => (by cases hx), fun x hx => (by cases hx), (by show 0 < 18446744073709551616; decide), (by show 0 < 18446744073709551616; decide), fun x hx => (by cases hx)⟩)
 obtain ⟨nL, hnL⟩ : ∃ n, l.length = n := ⟨_, rfl⟩
 obtain ⟨AL, cL, rfl, -⟩ := EL.form hLs hnL
 have hSp := lh (fun w1 (hb : Below w.heap.size w w1) k (hk : k < nL) => by
  obtain ⟨A9, c9, hv9, h9⟩ := EL.form hLs hnL
  obtain ⟨g, off, hA9, h2, h3, h4, h5⟩ := h9 w1 k hb hk
  exact (show ∃ g off, AL = some ⟨g, off, none⟩ ∧ nL ≤ cL ∧ g < w1.heap.size ∧ w1.cell? ⟨g, off + k * 2, none⟩ = some (.int .u16 ((l.getD k default).1 : Nat)) ∧ w1.cell? ⟨g, off + k * 2 + 1, none⟩ = some (.int .u64 ((l.getD k default).2 : Nat)) ∧ (l.getD k default).1 < 65536 from by
   cases hv9
   exact ⟨g, off, hA9, h2, h4, h5 0 (by decide), h5 1 (by decide), (hLk _ (by rw [List.getD_eq_getElem?_getD, List.getElem?_eq_getElem (by rw [hnL]; exact hk)]; exact List.getElem_mem _)).1⟩))
 have hSs := lh (fun (X : List Nat) k (hk : k < nL) => show (l.take (k + 1)).foldl spoilS X = spoilS ((l.take k).foldl spoilS X) (l.getD k default) from by
  rw [List.take_succ_eq_append_getElem (by rw [hnL]; exact hk), List.foldl_append, List.getD_eq_getElem?_getD, List.getElem?_eq_getElem (by rw [hnL]; exact hk)]; rfl)
 have hWY := lh (fun (h : WL (stockL s)) => spoil_WL l h (fun x hx => (hLk x hx).2))
 have hYl : (l.foldl spoilS (stockL s)).length = gvN (gvS s) := by rw [spoil_len]; exact hslen
 have hY8 : (l.foldl spoilS (stockL s)).length ≤ 800 := by rw [hYl]; omega
 have hap := lh (fun k (hk : k < (objL (l.foldl spoilS (stockL s))).length) => apart_at hY8 hk)
 rw [hYl] at hap
 have hst := lh (fun (hl4 : nL ≤ 4) k (hk : k < (objL (l.foldl spoilS (stockL s))).length) => objL_start (s := s) (l := l) (by omega) hk hY8)
 have hOl := objL_len hY8
 have hOb := lh (fun v w1 (h1 : Lw w1) (h2 : KL .u64 w1 v (l.foldl spoilS (stockL s))) (h3 : WL (l.foldl spoilS (stockL s))) => Objects_any v _ w1 h1 h3 h2 hY8)
 have hSo := lh (fun v w1 (h1 : Lw w1) (h2 : KL .u64 w1 v (l.foldl spoilS (stockL s))) (h3 : WL (l.foldl spoilS (stockL s))) => sound_any v _ w1 h1 h3 h2 hY8)
 have hCh := lh (fun w1 => refChunk_yes (gvN (gvS s) : Nat) (gvL (gvS s) : Nat) 0 w1 hg (by omega) (by rw [hgN]; omega))
 have hwk := lh (fun w1 (hb : Below w.heap.size w w1) => hw.keep hb)
 obtain ⟨X, hX⟩ : ∃ X, stockL s = X := ⟨_, rfl⟩
 obtain ⟨N, hN⟩ : ∃ N, gvN (gvS s) = N := ⟨_, rfl⟩
 obtain ⟨L, hL⟩ : ∃ L, gvL (gvS s) = L := ⟨_, rfl⟩
 obtain ⟨G, hG⟩ : ∃ G, gvG (gvS s) = G := ⟨_, rfl⟩
 rw [hX] at hSt hslen hWY hap hst hOb hSo hOl
 rw [hN] at hslen hap
 rw [hN, hL] at hGe hCh hg hgat hgN
 rw [hL, hG] at hst
 rw [hN, hL, hG] at hNN
 rw [hG] at hgat hG1 hG8 hgN
 rw [hL] at hL1 hL3
 obtain ⟨E, hE⟩ : ∃ E, 10 + 73 * L + G = E := ⟨_, rfl⟩
 rw [hE] at hst
 have hE1 : E ≤ 400 := by omega
 have hN1 : 116 ≤ N := by omega
 have hN2 : N ≤ 800 := by omega
 replace hCh := lh (fun w1 => show Calls Tryz.prog 28 #[.agg #[.int .i64 (N : Nat), .int .i64 (L : Nat)], .int .i64 0] w1 (fun e w' => e = .returned (.agg #[.int .i64 (E : Nat), .int .i64 32]) ∧ Below w1.heap.size w1 w') from by
  have h := hCh.out w1
  unfold cFrom at h
  rw [hgN] at h
  rw [show ((E : Nat) : Int) = 10 + 73 * (L : Int) + (G : Int) + 0 * 32 from by omega]
  exact h)
 clear hNN hE hgN hgat hg hYl hY8
 obtain ⟨nT, hnT⟩ : ∃ n, s.tiles.length = n := ⟨_, rfl⟩
 obtain ⟨nY, hnY⟩ : ∃ n, s.types.length = n := ⟨_, rfl⟩
 obtain ⟨nE, hnE⟩ : ∃ n, s.less.length = n := ⟨_, rfl⟩
 obtain ⟨nF, hnF⟩ : ∃ n, s.fill.length = n := ⟨_, rfl⟩
 rw [hnT, hnY, hnE, hnF] at hFe hSt
 rw [hnT, hnY, hnE, hnF]
 unfold skV at hFe hSt ⊢
 replace hX := lh hX
 replace hN := lh hN
 replace hL := lh hL
 replace hG := lh hG
 clear hM hB hw hLs hLk
 have hb0 := bZ w (.cells #[.int .u8 (s.a : Nat), .int .u8 (s.b : Nat), .slice AT nT cT, .slice AY nY cY, .slice AE nE cE, .int .u32 (s.ep : Nat), .int .u8 (s.root : Nat), .slice AF nF cF] 27)
 have gS := HB.new w #[.int .u8 (s.a : Nat), .int .u8 (s.b : Nat), .slice AT nT cT, .slice AY nY cY, .slice AE nE cE, .int .u32 (s.ep : Nat), .int .u8 (s.root : Nat), .slice AF nF cF] 27
 obtain ⟨wb1, hwb1⟩ : ∃ x, w.alloc (.cells #[.int .u8 (s.a : Nat), .int .u8 (s.b : Nat), .slice AT nT cT, .slice AY nY cY, .slice AE nE cE, .int .u32 (s.ep : Nat), .int .u8 (s.root : Nat), .slice AF nF cF] 27) = x := ⟨_, rfl⟩
 have hswb1 : wb1.heap.size = w.heap.size + 1 := by rw [← hwb1]; simp
 rw [hwb1] at hb0 gS
 obtain ⟨C0, hC0⟩ : ∃ C, w.heap.size = C := ⟨_, rfl⟩
 have hB : Below w.heap.size w wb1 := hb0
 rw [hC0] at gS
 clear hb0
 go_enter Tryz.func6, Tryz.ntmps6
 subst hwb1
 go_wp2_with fail
 refine (hAw.out _ hB).mono ?_
 rintro e w1 ⟨rfl, hb1⟩
 have hB1 := hB.trans (hb1.mono hB.size)
 have gS1 := gS.keep hb1
 clear hAw hb1 hB gS
 have p0 := (row_cell gS1 0).1
 have p1 := (row_cell gS1 1).1
 have p2 := (row_cell gS1 2).1
 have p3 := (row_cell gS1 3).1
 have p4 := (row_cell gS1 4).1
 have p5 := (row_cell gS1 5).1
 have p6 := (row_cell gS1 6).1
 have p7 := (row_cell gS1 7).1
 go_wp2_with fail
 refine (hFe.out _).mono ?_
 rintro e w2 ⟨rfl, hb2⟩
 have hB2 := hB1.trans (hb2.mono hB1.size)
 have gS2 := gS1.keep hb2
 clear p0 p1 p2 p3 p4 p5 p6 p7 hb2 hB1 gS1 hFe
 cases hfew : fewS s with
 | false =>
   go_wp2_with fail
   go_ret
   exact ⟨rfl, hB2⟩
 | true =>
   by_cases hl4 : nL ≤ 4
   case neg =>
    have hl4' : (4 : Int) < (nL : Int) := by omega
    go_wp2_with fail
    go_ret
    exact ⟨rfl, hB2⟩
   have hl4' : ¬ (4 : Int) < (nL : Int) := by omega
   have hSt2 := hSt.out _ hB2 hfew
   replace hst := lh (hst.out hl4)
   clear hSt hfew
   have p0 := (row_cell gS2 0).1
   have p1 := (row_cell gS2 1).1
   have p2 := (row_cell gS2 2).1
   have p3 := (row_cell gS2 3).1
   have p4 := (row_cell gS2 4).1
   have p5 := (row_cell gS2 5).1
   have p6 := (row_cell gS2 6).1
   have p7 := (row_cell gS2 7).1
   go_wp2_with fail
   refine hSt2.mono ?_
   rintro e w3 ⟨v3, rfl, hO3, hW, hb3⟩
   have hB3 := hB2.trans (hb3.mono hB2.size)
   have gS3 := gS2.keep hb3
   obtain ⟨A3, c3, hv3, hf3⟩ := OwnU.form hO3
   rw [hslen] at hv3 hf3
   cases hv3
   obtain ⟨B, rfl, -, -⟩ := hf3 (by omega)
   have hk3 := hO3.kl
   have hc3 : N ≤ c3 := by
    obtain ⟨A9, c9, hv9, h9⟩ := hk3.form hslen
    cases hv9
    obtain ⟨_, _, _, h2, _⟩ := h9 w3 0 (Below.refl _ _) (by omega)
    exact h2
   have hbs : w.heap.size ≤ w2.heap.size := hB2.size
   clear p0 p1 p2 p3 p4 p5 p6 p7 hSt2 hb3 hf3 gS2 hB2
   obtain ⟨Bs, hBs⟩ : ∃ b, w2.heap.size = b := ⟨_, rfl⟩
   rw [hBs] at hO3 hbs
   clear hBs
   have hS0 : SpS w C0 #[.int .u8 (s.a : Nat), .int .u8 (s.b : Nat), .slice AT nT cT, .slice AY nY cY, .slice AE nE cE, .int .u32 (s.ep : Nat), .int .u8 (s.root : Nat), .slice AF nF cF] Bs B N c3 X w3 := ⟨hO3, hslen, gS3, hB3, hbs⟩
   clear hO3 hk3 gS3 hB3
   go_wp2_with fail
   go_loopw [8] (fun i wq => ∃ (k : Nat), k ≤ nL ∧ i = .int .i64 (k : Nat) ∧ SpS w C0 #[.int .u8 (s.a : Nat), .int .u8 (s.b : Nat), .slice AT nT cT, .slice AY nY cY, .slice AE nE cE, .int .u32 (s.ep : Nat), .int .u8 (s.root : Nat), .slice AF nF cF] Bs B N c3 ((l.take k).foldl spoilS X) wq) (fun i _ => nL + 1 - (intOf i).toNat)
   case atStart => exact ⟨0, Nat.zero_le _, rfl, hS0⟩
   case round =>
    obtain ⟨k, hk, rfl, hS2⟩ := hrel
    clear hS0
    by_cases hltk : k < nL
    ·have hltk' : (k : Int) < (nL : Int) := by omega
     obtain ⟨gs, os, rfl, hcs, hgs, d0, d1, d2⟩ := hSp.out wr hS2.below k hltk
     have hss := hSs.out X k hltk
     obtain ⟨X9, hX9⟩ : ∃ X9, (l.take k).foldl spoilS X = X9 := ⟨_, rfl⟩
     rw [hX9] at hS2 hss
     obtain ⟨at', hat⟩ : ∃ a, (l.getD k default).1 = a := ⟨_, rfl⟩
     obtain ⟨vv, hvv⟩ : ∃ a, (l.getD k default).2 = a := ⟨_, rfl⟩
     obtain ⟨m5, hm5⟩ : ∃ m, at' % N = m := ⟨_, rfl⟩
     have hss2 : (l.take (k + 1)).foldl spoilS X = X9.set m5 vv := by rw [hss]; unfold spoilS; rw [hS2.l, hat, hvv, hm5]
     rw [hat] at d0 d2
     rw [hvv] at d1
     have hm5N : m5 < N := by rw [← hm5]; exact Nat.mod_lt _ (by omega)
     have r1 : (at' : Int) % (N : Int) = (m5 : Int) := by rw [← hm5]; rfl
     have r2 : (at' : Int).tmod (N : Int) = (m5 : Int) := by rw [Int.tmod_eq_emod_of_nonneg (by omega)]; exact r1
     have r3 : ¬ (N : Int) = 0 := by omega
     have r3' : ¬ N = 0 := by omega
     have r4 : IntKind.i64.wrap (at' : Int) = (at' : Int) := wrapQ _ (by omega) (by omega)
     have r5 : (m5 : Int) < (N : Int) := by omega
     have hSn := hS2.set m5 vv hm5N
     rw [← hss2] at hSn
     replace hss2 := lh hss2
     replace hX9 := lh hX9
     replace hat := lh hat
     replace hvv := lh hvv
     replace hm5 := lh hm5
     obtain ⟨Xd, hXd⟩ : ∃ x, X9.getD m5 0 = x := ⟨_, rfl⟩
     have hCF := lh (fun w' (hb : Below wr.heap.size wr w') => show (w'.cell? ⟨gs, os + k * 2, none⟩ = some (.int .u16 (at' : Nat)) ∧ w'.cell? ⟨gs, os + k * 2 + 1, none⟩ = some (.int .u64 (vv : Nat))) ∧ (w'.cell? ⟨B, m5, none⟩ = some (.int .u64 (Xd : Nat)) ∧ w'.frozen? ⟨B, m5, none⟩ = false) from ⟨⟨((bcell hb).1 _ _ hgs).trans d0, ((bcell hb).1 _ _ hgs).trans d1⟩, by rw [← hXd]; exact (hS2.keep hb).o.cell hS2.l hm5N⟩)
     replace hXd := lh hXd
     clear d0 d1 hss
     go_wp2_with fail
     refine wp_region_tail (S := (fun w' => Below wr.heap.size wr w')) (n := 16) (by kernel_rfl) (Below.refl _ _).drew (fun hHeld hInv => ?_) (by decide)
     refine takeHS 0 hInv ?_; clear hInv; intro hInv
     refine takeHS 1 hInv ?_; clear hInv; intro hInv
     refine takeHS 2 hInv ?_; clear hInv; intro hInv
     refine takeHS 3 hInv ?_; clear hInv; intro hInv
     refine takeHS 4 hInv ?_; clear hInv; intro hInv
     refine takeHS 5 hInv ?_; clear hInv; intro hInv
     refine takeHS 6 hInv ?_; clear hInv; intro hInv
     refine takeHS 7 hInv ?_; clear hInv; intro hInv
     refine takeHS 8 hInv ?_; clear hInv; intro hInv
     refine takeHS 9 hInv ?_; clear hInv; intro hInv
     refine takeHS 10 hInv ?_; clear hInv; intro hInv
     refine takeHS 11 hInv ?_; clear hInv; intro hInv
     refine takeHS 12 hInv ?_; clear hInv; intro hInv
     refine takeHS 13 hInv ?_; clear hInv; intro hInv
     refine takeHS 14 hInv ?_; clear hInv; intro hInv
     refine takeHS 15 hInv ?_; clear hInv; intro hInv
     refine lastS 16 rfl (by decide) (by kernel_rfl) (fun K hK => ?_)
     have zz := hCF.out _ hHeld
     obtain ⟨⟨v0, v1⟩, v3, v4⟩ := zz
     go_simp
     refine hK.out _ _ ?_
     clear hK K
     try simp only [Act.put,sA,sB,sC]
     refine wpAnyS_done (by kernel_rfl) ?_ _
     clear hCF hInv hHeld
     go_wp2_with fail
     go_roundw
     case rel => exact ⟨k + 1, by omega, by go_num, hSn.drewL⟩
     case measure => first | (simp [intOf]; done) | (simp [intOf]; omega)
    ·obtain rfl : nL = k := by omega
     rw [List.take_of_length_le (by rw [hnL]; exact Nat.le_refl _)] at hS2
     have hltk' : ¬ (nL : Int) < (nL : Int) := by omega
     obtain ⟨Y, hY⟩ : ∃ Y, l.foldl spoilS X = Y := ⟨_, rfl⟩
     rw [hY] at hS2 hap hst hOb hSo hOl
     have hW9 := hWY.out hW.out
     rw [hY] at hW9
     replace hOb := lh (fun v w1 (h1 : Lw w1) (h2 : KL .u64 w1 v Y) => hOb.out v w1 h1 h2 hW9)
     replace hSo := lh (fun v w1 (h1 : Lw w1) (h2 : KL .u64 w1 v Y) => hSo.out v w1 h1 h2 hW9)
     have hBa := hS2.below
     have gSa := hS2.s
     clear hSp hSs hWY hW9 hW hY
     have p0 := (row_cell gSa 0).1
     have p1 := (row_cell gSa 1).1
     go_wp2_with fail
     refine (hGe.out _).mono ?_
     rintro e w4 ⟨rfl, hb4⟩
     have hB4 := hBa.trans (hb4.mono hBa.size)
     have e5 := bZ w4 (.cells #[.int .i64 (N : Nat), .int .i64 (L : Nat)] 51)
     have gG := HB.new w4 #[.int .i64 (N : Nat), .int .i64 (L : Nat)] 51
     obtain ⟨w5, hw5⟩ : ∃ x, w4.alloc (.cells #[.int .i64 (N : Nat), .int .i64 (L : Nat)] 51) = x := ⟨_, rfl⟩
     rw [hw5] at e5 gG
     obtain ⟨Gb, hGb⟩ : ∃ K, w4.heap.size = K := ⟨_, rfl⟩
     rw [hGb] at gG
     have hB5 := hB4.trans (e5.mono hB4.size)
     obtain ⟨g0, g1⟩ := gG.c2
     have hS5 := (hS2.keep hb4).keep e5
     have hCh5 : Calls Tryz.prog 28 #[.agg #[.int .i64 (N : Nat), .int .i64 (L : Nat)], .int .i64 0] w5 (fun e w' => e = .returned (.agg #[.int .i64 (E : Nat), .int .i64 32]) ∧ Below w5.heap.size w5 w') := hCh.out w5
     have hfd := fun w1 => fieldQ (E : Nat) 32 w1
     clear p0 p1 e5 hb4 hB4 hS2 hBa gSa hGe hCh
     subst hw5
     go_wp2_with fail
     refine hCh5.mono ?_
     rintro e w6 ⟨rfl, hb6⟩
     have hB6 := hB5.trans (hb6.mono hB5.size)
     have hS6 := hS5.keep hb6
     have hOb6 := hOb.out _ w6 (hwk.out _ hB6) hS6.o.kl
     clear g0 g1 hCh5 hb6 hB5 gG hS5 hOb
     go_wp2_with fail
     clear hfd
     refine hOb6.mono ?_
     rintro e w7 ⟨v7, rfl, hO7, hb7⟩
     have hB7 := hB6.trans (hb7.mono hB6.size)
     have hS7 := hS6.keep hb7
     obtain ⟨O, hO⟩ : ∃ O, objL Y = O := ⟨_, rfl⟩
     rw [hO] at hO7 hap hst hOl
     obtain ⟨n, hn⟩ : ∃ n, O.length = n := ⟨_, rfl⟩
     rw [hn] at hap hst hOl
     obtain ⟨A7, c7, rfl, -⟩ := hO7.formJ hn
     have hOY := lh hO
     replace hn := lh hn
     replace hap := lh (fun k hk => hap.out k hk)
     replace hst := lh (fun k hk => hst.out k hk)
     clear hOb6 hb7 hB6 hS6 hO
     go_wp2_with fail
     go_loopw [10, 12] (fun en i wr => ∃ (j e : Nat), j ≤ n ∧ i = .int .i64 (j : Nat) ∧ en = .int .i64 (e : Nat) ∧ Hid (∀ k, j ≤ k → k < n → e ≤ (O.getD k default).1.1) ∧ e ≤ 2000 ∧ Below w7.heap.size w7 wr) (fun _ i _ => n + 1 - (intOf i).toNat)
     case atStart => exact ⟨0, E, Nat.zero_le _, rfl, rfl, lh (fun k _ hk => hst.out k hk), by omega, Below.refl _ _⟩
     case round =>
      obtain ⟨j, e, hj, rfl, rfl, hen, he2, hBr⟩ := hrel
      have hBwr := hB7.trans (hBr.mono hB7.size)
      have hSr := hS7.keep hBr
      by_cases hlt : j < n
      ·have hlt' : (j : Int) < (n : Int) := by omega
       obtain ⟨A5, c5, hv5, hF5⟩ := (hO7.keep hBr).formJ hn.out
       cases hv5
       obtain ⟨g5, o5, d5, rfl, hc5, -, hg5, k0, k1, k2, k3, hkd⟩ := hF5 wr j (Below.refl _ _) hlt
       obtain ⟨-, -, q1, q2, q3, q4, q5, q6⟩ := hap.out j hlt
       have hen1 := hen.out j (Nat.le_refl _) hlt
       have hen2 := fun k (h1 : j + 1 ≤ k) (h2 : k < n) => (hap.out k h2).2.2.2.2.2.2.1 j h1
       clear hF5 q5
       rw [show (O.getD j default).2.length = (O.getD j default).2.length from rfl] at q1
       generalize O.getD j default = x at k0 k1 k2 hkd q1 q2 q3 q4 q6 hen1 hen2
       obtain ⟨⟨xp, xt, xn⟩, xd⟩ := x
       simp only [] at k0 k1 k2 hkd q1 q2 q3 q4 q6 hen1 hen2
       obtain ⟨md, hmd⟩ : ∃ m, xd.length = m := ⟨_, rfl⟩
       rw [hmd] at q1 hen2
       obtain ⟨Ad, cd, rfl, -⟩ := hkd.form hmd
       have hdi := lh q6
       replace hen2 := lh (show ∀ k, j + 1 ≤ k → k < n → md + (xp + 2) ≤ (O.getD k default).1.1 from fun k h1 h2 => by have := hen2 k h1 h2; omega)
       have hp8 : xp ≤ 800 := by omega
       have hm8 : md ≤ 800 := by omega
       have t1 : ¬ (xp : Int) < (e : Int) := by omega
       have t2 : ¬ (N : Int) < (xp : Int) + 2 + (md : Int) := by omega
       have t3 : ¬ (xt : Int) < 1 := by omega
       have t4 : ¬ (65535 : Int) < (xt : Int) := by omega
       have t5 : ¬ (xn : Int) = 0 := by omega
       have t6 : ((xn : Int) == 0) = false := beq_eq_false_iff_ne.2 t5
       have u1 : IntKind.i64.wrap ((xp : Int) + 2) = (xp : Int) + 2 := wrapQ _ (by omega) (by omega)
       have u2 : IntKind.i64.wrap ((xp : Int) + 2 + (md : Int)) = (xp : Int) + 2 + (md : Int) := wrapQ _ (by omega) (by omega)
       have e8 := bZ wr (.cells #[.int .i64 (xp : Nat), .int .i64 (xt : Nat), .int .u64 (xn : Nat), .slice Ad md cd] 64)
       have gO := HB.new wr #[.int .i64 (xp : Nat), .int .i64 (xt : Nat), .int .u64 (xn : Nat), .slice Ad md cd] 64
       obtain ⟨w9, hw9⟩ : ∃ x, wr.alloc (.cells #[.int .i64 (xp : Nat), .int .i64 (xt : Nat), .int .u64 (xn : Nat), .slice Ad md cd] 64) = x := ⟨_, rfl⟩
       rw [hw9] at e8 gO
       obtain ⟨Ob, hOb9⟩ : ∃ b, wr.heap.size = b := ⟨_, rfl⟩
       rw [hOb9] at gO
       have hBr9 := hBr.trans (e8.mono hBr.size)
       have o0 := (row_cell gO 0).1
       have o1 := (row_cell gO 1).1
       have o2 := (row_cell gO 2).1
       have o3 := (row_cell gO 3).1
       clear e8 hkd q6 hen hap hst
       subst hw9
       go_wp2_with fail
       clear o0 o1 o2 o3 k0 k1 k2 k3
       generalize wr.alloc (.cells #[.int .i64 (xp : Nat), .int .i64 (xt : Nat), .int .u64 (xn : Nat), .slice Ad md cd] 64) = w9 at *
       go_wp2_with fail
       go_loopw [14] (fun i wq => ∃ (k : Nat), k ≤ j ∧ i = .int .i64 (k : Nat) ∧ Below w9.heap.size w9 wq) (fun i _ => j + 1 - (intOf i).toNat)
       case atStart => exact ⟨0, Nat.zero_le _, rfl, Below.refl _ _⟩
       case round =>
        obtain ⟨k, hk, rfl, hBq⟩ := hrel
        have gOq := gO.keep hBq
        have hBrq := hBr9.trans (hBq.mono hBr9.size)
        by_cases hkt : k < j
        ·have hkt' : (k : Int) < (j : Int) := by omega
         have hkn' : (k : Int) < (n : Int) := by omega
         have hkn : k < n := by omega
         obtain ⟨A6, c6, hv6, hF6⟩ := (hO7.keep hBrq).formJ hn.out
         cases hv6
         obtain ⟨g6, o6, d6, he6, hc6, -, hg6, y0, y1, y2, y3, -⟩ := hF6 wr k (Below.refl _ _) (by omega)
         simp only [Option.some.injEq, Addr.mk.injEq] at he6
         obtain ⟨rfl, rfl, -⟩ := he6
         have hne := hdi.out k hkt
         clear hF6
         generalize O.getD k default = y at y0 y1 y2 hne
         obtain ⟨⟨yp, yt, yn⟩, yd⟩ := y
         simp only [] at y0 y1 y2 hne
         have hE1 : ¬ (yn : Int) = (xn : Int) := by omega
         have hE2 : ((yn : Int) == (xn : Int)) = false := beq_eq_false_iff_ne.2 hE1
         have hCF := lh (fun w' (hb : Below wr.heap.size wr w') => show w'.cell? ⟨g5, o5 + k * 4 + 2, none⟩ = some (.int .u64 (yn : Nat)) ∧ w'.cell? ⟨Ob, 2, none⟩ = some (.int .u64 (xn : Nat)) from ⟨by rw [(bcell hb).1 _ _ hg6]; exact y2, (row_cell (gOq.keep hb) 2).1⟩)
         clear y0 y1 y2 y3 hne gO
         go_wp2_with fail
         refine wp_region_held_drew (S := (fun w' => Below wr.heap.size wr w')) (by kernel_rfl) (Below.refl _ _).drew (fun hHeld => ?_)
         refine takeH 0 ?_
         refine takeH 1 ?_
         refine takeH 2 ?_
         refine takeH 3 ?_
         refine takeH 4 ?_
         refine takeH 5 ?_
         refine takeH 6 ?_
         refine takeH 7 ?_
         refine takeH 8 ?_
         refine takeH 9 ?_
         refine wpAnyH_done (by kernel_rfl) ?_ _
         have hBz := hBq.trans (hHeld.mono hBq.size)
         clear hCF hHeld
         go_wp2_with fail
         go_roundw
         case rel => exact ⟨k + 1, by omega, by go_num, hBz⟩
         case measure => first | (simp [intOf]; done) | (simp [intOf]; omega)
        ·obtain rfl : j = k := by omega
         have hkt' : ¬ (j : Int) < (j : Int) := by omega
         go_wp2_with fail
         go_roundw
         case rel => exact ⟨j + 1, md + (xp + 2), by omega, by go_num, by first | (go_num; done) | (go_num; omega), hen2, by omega, hBrq⟩
         case measure => first | (simp [intOf]; done) | (simp [intOf]; omega)
      ·obtain rfl : n = j := by omega
       have hlt' : ¬ (n : Int) < (n : Int) := by omega
       have hSo1 := hSo.out _ wr (hwk.out _ hBwr) hSr.o.kl
       clear hen hap hst
       cases hsd : soundB Y with
       | true =>
         rw [hsd] at hSo1
         replace hSo1 : Calls Tryz.prog 13 #[.slice (some ⟨B, 0, none⟩) N c3] wr (fun e w' => e = .returned (.int .i64 0) ∧ Below wr.heap.size wr w') := hSo1
         go_wp2_with fail
         refine hSo1.mono ?_
         rintro e9 w8 ⟨rfl, hb8⟩
         have hBe := hBwr.trans (hb8.mono hBwr.size)
         go_wp2_with fail
         go_ret
         exact ⟨rfl, hBe⟩
       | false =>
         rw [hsd] at hSo1
         have hn0 : n = 0 := by rw [← hn.out, ← hOY.out, objL_none hsd]; rfl
         replace hSo1 : Calls Tryz.prog 13 #[.slice (some ⟨B, 0, none⟩) N c3] wr (fun e w' => e = .returned (.int .i64 7) ∧ Below wr.heap.size wr w') := hSo1
         have hn1 : (n : Int) = 0 := by omega
         have hn2 : ((n : Int) == 0) = true := beq_iff_eq.2 hn1
         go_wp2_with fail
         refine hSo1.mono ?_
         rintro e9 w8 ⟨rfl, hb8⟩
         have hBe := hBwr.trans (hb8.mono hBwr.size)
         go_wp2_with fail
         go_ret
         exact ⟨by first | rfl | simp, hBe⟩
end Go.Proofs.YtdmmbnnejbmdpaaGreatDoor
end
