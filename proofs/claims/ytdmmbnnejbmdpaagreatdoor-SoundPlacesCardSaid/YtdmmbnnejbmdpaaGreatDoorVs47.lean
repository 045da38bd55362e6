/-
  Part of the proof of SoundPlaces.
-/
import Derived.Test.YtdmmbnnejbmdpaaGreatDoorVs40
import Derived.Test.YtdmmbnnejbmdpaaGreatDoorVs44
import Derived.Test.YtdmmbnnejbmdpaaGreatDoorVs46
import Derived.Test.YtdmmbnnejbmdpaaGreatDoorVs0
set_option maxRecDepth 10000
set_option maxHeartbeats 4000000
set_option linter.unusedVariables false
set_option linter.unusedSimpArgs false
section
namespace Go.Proofs.YtdmmbnnejbmdpaaGreatDoor
open Go.Lib Go.RowKit Go.ChangeShapes Go.WideShapes Go.Deep Go.Shelf
theorem find_snoc {l : List Ob} {k : Nat} {P : Ob → Bool} (h : k < l.length) (hn : (l.take k).find? P = none) : (l.take (k + 1)).find? P = (if P (l.getD k default) = true then some (l.getD k default) else none) := by
 rw [List.take_succ_eq_append_getElem h, List.find?_append, hn, List.getD_eq_getElem?_getD, List.getElem?_eq_getElem h]
 show (List.find? P [l[k]]) = (if P l[k] = true then some l[k] else none)
 rw [List.find?_cons]
 cases P l[k] <;> rfl
theorem find_pre {l : List Ob} {k : Nat} {P : Ob → Bool} {x : Ob} (h : (l.take k).find? P = some x) : l.find? P = some x := by
 have e : l = l.take k ++ l.drop k := (List.take_append_drop k l).symm
 rw [e, List.find?_append, h]
 rfl
theorem st3_at {w : World} {b : Nat} {x y z x' y' z' : Value} {t : TypeId} (h : HB w b #[x, y, z] t) :
 (((w.setCell ⟨b, 0, none⟩ x').setCell ⟨b, 1, none⟩ y').setCell ⟨b, 2, none⟩ z').cell? ⟨b, 0, none⟩ = some x' ∧ (((w.setCell ⟨b, 0, none⟩ x').setCell ⟨b, 1, none⟩ y').setCell ⟨b, 2, none⟩ z').cell? ⟨b, 1, none⟩ = some y' ∧ (((w.setCell ⟨b, 0, none⟩ x').setCell ⟨b, 1, none⟩ y').setCell ⟨b, 2, none⟩ z').cell? ⟨b, 2, none⟩ = some z' := by
 have g : HB _ b #[x', y', z'] t := ((h.setC 0 x').setC 1 y').setC 2 z'
 exact ⟨(row_cell g 0).1, (row_cell g 1).1, (row_cell g 2).1⟩
theorem Root_f (v : Value) (I : List Nat) (w : World) (hw : Lw w) (hW : WL I) (hv : KL .u64 w v I) (hN8 : I.length ≤ 800) (hsd : soundB I = false) :
 Calls Tryz.prog 18 #[v] w fun e w' => e = .returned (.agg #[.int .i64 0, .int .i64 0, .int .u64 0]) ∧ Below w.heap.size w w' := by
 have e1 := bZ w (.cells #[.int .i64 0, .int .i64 0, .int .u64 0] 42)
 have gR := HB.new w #[.int .i64 0, .int .i64 0, .int .u64 0] 42
 obtain ⟨wa, hwa⟩ : ∃ x, w.alloc (.cells #[.int .i64 0, .int .i64 0, .int .u64 0] 42) = x := ⟨_, rfl⟩
 rw [hwa] at e1 gR
 have hSo := sound_any v I wa (hw.keep e1) hW (hv.keep e1) hN8
 rw [hsd] at hSo
 simp only [Bool.false_eq_true, if_false] at hSo
 obtain ⟨A, c, hve, -⟩ := hv.form rfl
 generalize I.length = N at hve
 subst hve
 clear hv hW hw hN8 hsd
 go_enter Tryz.func18, Tryz.ntmps18
 subst hwa
 go_wp2_with fail
 refine hSo.mono ?_
 rintro e w1 ⟨rfl, hb1⟩
 have hB1 := e1.trans (hb1.mono e1.size)
 have gR1 := gR.keep hb1
 obtain ⟨a0, b0⟩ := row_cell gR1 0
 obtain ⟨a1, b1⟩ := row_cell gR1 1
 obtain ⟨a2, b2⟩ := row_cell gR1 2
 obtain ⟨d0, d1, d2⟩ := st3_at (x' := .int .i64 0) (y' := .int .i64 0) (z' := .int .u64 0) gR1
 have hBe := ((hB1.setCell (p := ⟨w.heap.size, 0, none⟩) (Nat.le_refl _) (.int .i64 0)).setCell (p := ⟨w.heap.size, 1, none⟩) (Nat.le_refl _) (.int .i64 0)).setCell (p := ⟨w.heap.size, 2, none⟩) (Nat.le_refl _) (.int .u64 0)
 go_wp2_with fail
 refine bodyPost_ret (v := .agg #[.int .i64 0, .int .i64 0, .int .u64 0]) (by simp [results, Tryz.results18, go_sem, d0, d1, d2]) rfl ⟨rfl, hBe⟩
theorem Root_t (v : Value) (I : List Nat) (w : World) (hw : Lw w) (hW : WL I) (hv : KL .u64 w v I) (hN8 : I.length ≤ 800) (hsd : soundB I = true) :
 Calls Tryz.prog 18 #[v] w fun e w' => e = .returned (.agg #[.int .i64 ((rootO I).1 : Nat), .int .i64 ((rootO I).2.1 : Nat), .int .u64 ((rootO I).2.2 : Nat)]) ∧ Below w.heap.size w w' := by
 have hro : rootO I = rootL I (objsP I (I.getD 3 0)) := by unfold rootO; rw [if_pos hsd]
 rw [hro]
 obtain ⟨hs, hri, hal⟩ := sound_parts hsd
 have e1 := bZ w (.cells #[.int .i64 0, .int .i64 0, .int .u64 0] 42)
 have gR := HB.new w #[.int .i64 0, .int .i64 0, .int .u64 0] 42
 obtain ⟨wa, hwa⟩ : ∃ x, w.alloc (.cells #[.int .i64 0, .int .i64 0, .int .u64 0] 42) = x := ⟨_, rfl⟩
 rw [hwa] at e1 gR
 have hSo := sound_any v I wa (hw.keep e1) hW (hv.keep e1) hN8
 rw [if_pos hsd] at hSo
 have hR := lh (fun w1 (hb : Below w.heap.size w w1) => read_t v I w1 hW (hv.keep hb) hs)
 obtain ⟨g, off, cap, rfl, hp⟩ := pool_of hw hW hv hN8 hs
 have h116 := hp.cap.2
 obtain ⟨N, hN⟩ : ∃ N, I.length = N := ⟨_, rfl⟩
 have hgI := hp.hs
 have hbx := fun x (hx : x ∈ objsP I (I.getD 3 0)) => (objsP_mem hW hgI hN8 hx).2.1
 obtain ⟨L, hL⟩ : ∃ L, I.getD 3 0 = L := ⟨_, rfl⟩
 have hlen := objsP_len hp.hN hp.hN8 hp.hs
 rw [hN, hL] at hR hp
 rw [hL] at hal hbx hlen ⊢
 rw [hN] at h116 hSo ⊢
 have hOb := lh (fun w1 (hb : Below w.heap.size w w1) => (hp.keep hb).objs)
 have hcl := lh (fun w1 (hb : Below w.heap.size w w1) => (hp.keep hb).cell 8 (by omega))
 rw [hal] at hOb
 generalize objsP I L = l at *
 obtain ⟨n, hn⟩ : ∃ n, l.length = n := ⟨_, rfl⟩
 rw [hn] at hlen
 obtain ⟨rt, hrt⟩ : ∃ x, I.getD 8 0 = x := ⟨_, rfl⟩
 simp only [hrt] at hcl
 have hrl : rootL I l = ((l.find? fun o => decide (o.1 = rt)).map fun o => (o.1, o.2.1, o.2.2.2)).getD (0, 0, 0) := by unfold rootL; rw [hrt]
 obtain ⟨ans, hans⟩ : ∃ a, rootL I l = a := ⟨_, rfl⟩
 rw [hans]
 rw [hrl] at hans
 have hxb := lh (fun k (hk : k < n) => show (l.getD k default).1 < 1000000 from hbx _ (by rw [List.getD_eq_getElem?_getD, List.getElem?_eq_getElem (by omega)]; exact List.getElem_mem _))
 have hsn := lh (fun k (hk : k < n) (h : (l.take k).find? (fun o => decide (o.1 = rt)) = none) => find_snoc (l := l) (k := k) (by omega) h)
 have hta := lh (show l.take n = l from List.take_of_length_le (by omega))
 have hNm := lh (fun (p t s n9 : Nat) w1 => name_any (p : Nat) (t : Nat) (s : Nat) (n9 : Nat) w1)
 replace hans := lh hans
 replace hn := lh hn
 replace hN := lh hN
 replace hL := lh hL
 have h8 : (8 : Int) < (N : Int) := by omega
 clear hbx hp hal hri hs hsd hgI hv hW hw hN8 hro hrl hrt
 go_enter Tryz.func18, Tryz.ntmps18
 subst hwa
 go_wp2_with fail
 refine hSo.mono ?_
 rintro e w1 ⟨rfl, hb1⟩
 have hB1 := e1.trans (hb1.mono e1.size)
 have gR1 := gR.keep hb1
 have hR1 := hR.out _ hB1
 clear hSo gR hR hb1 e1
 go_wp2_with fail
 refine hR1.mono ?_
 rintro e w2 ⟨rfl, hb2⟩
 have hB2 := hB1.trans (hb2.mono hB1.size)
 have gR2 := gR1.keep hb2
 have hO2 := hOb.out _ hB2
 clear hR1 hB1 hb2 hOb gR1
 go_wp2_with fail
 refine hO2.mono ?_
 rintro e w3 ⟨v3, rfl, ho3, hb3⟩
 have hB3 := hB2.trans (hb3.mono hB2.size)
 have gR3 := gR2.keep hb3
 obtain ⟨A3, c3, rfl, -⟩ := OBO.formO ho3 hn.out
 clear hO2 hB2 hb3 gR2
 go_wp2_with fail
 go_loopw [19] (fun i wr => ∃ (j : Nat), j ≤ n ∧ i = .int .i64 (j : Nat) ∧ Hid ((l.take j).find? (fun o => decide (o.1 = rt)) = none) ∧ Below w3.heap.size w3 wr) (fun i _ => n + 1 - (intOf i).toNat)
 case atStart => exact ⟨0, Nat.zero_le _, rfl, lh (by simp), Below.refl _ _⟩
 case round =>
  obtain ⟨j, hj, rfl, hno, hBr⟩ := hrel
  have hBw := hB3.trans (hBr.mono hB3.size)
  have gRr := gR3.keep hBr
  by_cases hlt : j < n
  ·have hlt' : (j : Int) < (n : Int) := by omega
   obtain ⟨A4, c4, hv4, hF⟩ := OBO.formO (ho3.keep hBr) hn.out
   cases hv4
   obtain ⟨g5, o5, rfl, hc5, hg5, k0, k1, k2, k3⟩ := hF j hlt
   have hxb1 := hxb.out j hlt
   have hsn1 := hsn.out j hlt hno.out
   generalize l.getD j default = b at *
   obtain ⟨p, t, s, n9⟩ := b
   simp only [] at k0 k1 k2 k3 hxb1 hsn1
   have z1 : IntKind.u64.wrap (p : Int) = (p : Int) := by rw [IntKind.wrap_u64]; omega
   have hNm1 := lh (hNm.out p t s n9)
   have e4 := bZ wr (.cells #[.int .i64 (p : Nat), .int .i64 (t : Nat), .int .i64 (s : Nat), .int .u64 (n9 : Nat)] 95)
   have gO := HB.new wr #[.int .i64 (p : Nat), .int .i64 (t : Nat), .int .i64 (s : Nat), .int .u64 (n9 : Nat)] 95
   obtain ⟨w4, hw4⟩ : ∃ x, wr.alloc (.cells #[.int .i64 (p : Nat), .int .i64 (t : Nat), .int .i64 (s : Nat), .int .u64 (n9 : Nat)] 95) = x := ⟨_, rfl⟩
   rw [hw4] at e4 gO
   obtain ⟨K, hK⟩ : ∃ K, wr.heap.size = K := ⟨_, rfl⟩
   rw [hK] at gO
   have hB4 := hBr.trans (e4.mono hBr.size)
   have gR4 := gRr.keep e4
   have hCF := lh (fun w' (hb : Below w4.heap.size w4 w') => show w'.cell? ⟨K, 0, none⟩ = some (.int .i64 (p : Nat)) ∧ w'.cell? ⟨g, off + 8, none⟩ = some (.int .u64 (rt : Nat)) from
    ⟨(row_cell (gO.keep hb) 0).1, hcl.out w' ((hB3.trans (hB4.mono hB3.size)).trans (hb.mono (hB3.trans (hB4.mono hB3.size)).size))⟩)
   clear hF e4 hno gRr
   by_cases hpr : p = rt
   ·subst hpr
    have hf := lh (show ans = (p, t, n9) from by
     rw [← hans.out]
     rw [if_pos (by exact decide_eq_true rfl)] at hsn1
     rw [find_pre hsn1]
     rfl)
    clear hsn1
    go_wp2_with fail
    refine wp_region_held_drew (S := (fun w' => Below w4.heap.size w4 w')) (by kernel_rfl) (Below.refl _ _).drew (fun hHeld => ?_)
    refine takeH 0 ?_
    refine takeH 1 ?_
    refine takeH 2 ?_
    refine takeH 3 ?_
    refine takeH 4 ?_
    refine takeH 5 ?_
    refine takeH 6 ?_
    refine wpAnyH_done (by kernel_rfl) ?_ _
    have hB5 := hB4.trans (hHeld.mono hB4.size)
    have gO5 := gO.keep hHeld
    have gR5 := gR4.keep hHeld
    have q0 := (row_cell gO5 0).1
    have q1 := (row_cell gO5 1).1
    have q2 := (row_cell gO5 2).1
    have q3 := (row_cell gO5 3).1
    have hNm5 := fun w1 => hNm1.out w1
    unfold nV at hNm5
    replace hNm5 := lh hNm5
    clear hCF hHeld gO gR4
    go_wp2_with fail
    refine (hNm5.out _).mono ?_
    rintro e w6 ⟨rfl, hb6⟩
    have hB6 := hB5.trans (hb6.mono hB5.size)
    have gR6 := gR5.keep hb6
    obtain ⟨a0, b0⟩ := row_cell gR6 0
    obtain ⟨a1, b1⟩ := row_cell gR6 1
    obtain ⟨a2, b2⟩ := row_cell gR6 2
    obtain ⟨d0, d1, d2⟩ := st3_at (x' := .int .i64 (p : Nat)) (y' := .int .i64 (t : Nat)) (z' := .int .u64 (n9 : Nat)) gR6
    have hBw6 := hB3.trans (hB6.mono hB3.size)
    have hBe := ((hBw6.setCell (p := ⟨w.heap.size, 0, none⟩) (Nat.le_refl _) (.int .i64 (p : Nat))).setCell (p := ⟨w.heap.size, 1, none⟩) (Nat.le_refl _) (.int .i64 (t : Nat))).setCell (p := ⟨w.heap.size, 2, none⟩) (Nat.le_refl _) (.int .u64 (n9 : Nat))
    clear q0 q1 q2 q3 gO5 gR5 hb6
    go_wp2_with fail
    refine bodyPost_ret (v := .agg #[.int .i64 (p : Nat), .int .i64 (t : Nat), .int .u64 (n9 : Nat)]) (by simp [results, Tryz.results18, go_sem, d0, d1, d2]) rfl ⟨by rw [hf.out], hBe⟩
   ·have hpr' : ¬ (p : Int) = (rt : Int) := by omega
    have hpr2 : ((p : Int) == (rt : Int)) = false := beq_eq_false_iff_ne.2 hpr'
    have hs2 := lh (show (l.take (j + 1)).find? (fun o => decide (o.1 = rt)) = none from by
     rw [if_neg (by rw [decide_eq_false hpr]; decide)] at hsn1
     exact hsn1)
    clear hsn1
    go_wp2_with fail
    refine wp_region_held_drew (S := (fun w' => Below w4.heap.size w4 w')) (by kernel_rfl) (Below.refl _ _).drew (fun hHeld => ?_)
    refine takeH 0 ?_
    refine takeH 1 ?_
    refine takeH 2 ?_
    refine takeH 3 ?_
    refine takeH 4 ?_
    refine takeH 5 ?_
    refine takeH 6 ?_
    refine wpAnyH_done (by kernel_rfl) ?_ _
    have hB5 := hB4.trans (hHeld.mono hB4.size)
    clear hCF hHeld gO gR4
    go_wp2_with fail
    go_roundw
    case rel => exact ⟨j + 1, by omega, by go_num, hs2, hB5⟩
    case measure => first | (simp [intOf]; done) | (simp [intOf]; omega)
  ·obtain rfl : n = j := by omega
   have hlt' : ¬ (n : Int) < (n : Int) := by omega
   have hf := lh (show ans = (0, 0, 0) from by rw [← hans.out]; have h := hno.out; rw [hta.out] at h; rw [h]; rfl)
   obtain ⟨a0, b0⟩ := row_cell gRr 0
   obtain ⟨a1, b1⟩ := row_cell gRr 1
   obtain ⟨a2, b2⟩ := row_cell gRr 2
   obtain ⟨d0, d1, d2⟩ := st3_at (x' := .int .i64 0) (y' := .int .i64 0) (z' := .int .u64 0) gRr
   have hBe := ((hBw.setCell (p := ⟨w.heap.size, 0, none⟩) (Nat.le_refl _) (.int .i64 0)).setCell (p := ⟨w.heap.size, 1, none⟩) (Nat.le_refl _) (.int .i64 0)).setCell (p := ⟨w.heap.size, 2, none⟩) (Nat.le_refl _) (.int .u64 0)
   go_wp2_with fail
   refine bodyPost_ret (v := .agg #[.int .i64 0, .int .i64 0, .int .u64 0]) (by simp [results, Tryz.results18, go_sem, d0, d1, d2]) rfl ⟨by rw [hf.out]; rfl, hBe⟩
theorem Root_any (v : Value) (I : List Nat) (w : World) (hw : Lw w) (hW : WL I) (hv : KL .u64 w v I) (hN8 : I.length ≤ 800) :
 Calls Tryz.prog 18 #[v] w fun e w' => e = .returned (.agg #[.int .i64 ((rootO I).1 : Nat), .int .i64 ((rootO I).2.1 : Nat), .int .u64 ((rootO I).2.2 : Nat)]) ∧ Below w.heap.size w w' := by
 cases hsd : soundB I with
 | true => exact Root_t v I w hw hW hv hN8 hsd
 | false =>
   have e : rootO I = (0, 0, 0) := by unfold rootO; rw [hsd]; rfl
   rw [e]
   exact Root_f v I w hw hW hv hN8 hsd
end Go.Proofs.YtdmmbnnejbmdpaaGreatDoor
end
section
namespace Go.Proofs.YtdmmbnnejbmdpaaGreatDoor
open Go.Lib Go.RowKit Go.ChangeShapes Go.WideShapes Go.Deep Go.Shelf
theorem GvM.sl {w : World} {vT vF vI vS : Value} {xs : List ItV} {p : Gv} (h : GvM w vT vF vI vS xs p) : ∃ AT nT cT AF nF cF AI nI cI AS nS cS, vT = .slice AT nT cT ∧ vF = .slice AF nF cF ∧ vI = .slice AI nI cI ∧ vS = .slice AS nS cS := by
 obtain ⟨AT, cT, h1, -⟩ := h.t.form rfl
 obtain ⟨AF, cF, h2, -⟩ := h.f.form rfl
 obtain ⟨AI, cI, h3⟩ := EL.sl h.i
 obtain ⟨AS, cS, h4⟩ := EL.sl h.s
 exact ⟨AT, _, cT, AF, _, cF, AI, _, cI, AS, _, cS, h1, h2, h3, h4⟩
theorem make_any (p : Gv) (vT vF vI vS : Value) (xs : List ItV) (w : World) (hw : Lw w) (hM : GvM w vT vF vI vS xs p) (hB : GvB p) (hfw : fewB p = true) :
 Calls Tryz.prog 21 #[gvV p vT vF vI vS] w fun e w' => ∃ v', e = .returned v' ∧ OwnU w' w.heap.size v' (makeL p) ∧ Hid (WL (makeL p)) ∧ Below w.heap.size w w' := by
 exact (make_f p vT vF vI vS xs w hw hM hB hfw).mono (fun e w' h => Exists.elim h (fun v' h => ⟨v', h.1, h.2.1, lh (makeL_WL hB h.2.2.1), h.2.2.2⟩))
theorem gv_len (p : Gv) : (makeL p).length = gvN p ∧ gvN p ≤ 493 := by
 refine ⟨makeL_len p, ?_⟩
 obtain ⟨_, _, _, h1, h2, h3, h4⟩ := gv_geo p
 show 10 + 73 * gvL p + 33 * gvG p ≤ 493
 omega
end Go.Proofs.YtdmmbnnejbmdpaaGreatDoor
end
