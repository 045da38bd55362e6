/-
  Part of the proof of MendAgain.
-/
import Derived.Test.YtkdhdibjbabgfaaGreatDoorVa41
import Derived.Test.YtkdhdibjbabgfaaGreatDoorVa42
import Derived.Test.YtkdhdibjbabgfaaGreatDoorVa43
import Derived.Test.YtkdhdibjbabgfaaGreatDoorVa45
import Derived.Test.YtkdhdibjbabgfaaGreatDoorVa49
import Derived.Test.YtkdhdibjbabgfaaGreatDoorVa50
section
set_option linter.unusedVariables false
set_option linter.unusedSimpArgs false
namespace Go.Proofs.YtkdhdibjbabgfaaGreatDoor
open Go.Lib Go.RowKit Go.ChangeShapes Go.WideShapes Go.Deep Go.Shelf
def p1 : Gv := { a := 0, b := 0, tiles := [], fill := [], items := [(0, 2, 0, [], [(0, 8, 5)])], root := 0, epoch := 0, spoil := [] }
theorem p1_len : (makeL p1).length = 116 := by decide +kernel
theorem p1_m : (mendD (makeL p1)).isSome = true := by decide +kernel
theorem p1_g : ((mendD (makeL p1)).getD []).getD 8 0 = 5 ∧ ((mendD (makeL p1)).getD []).getD 10 0 = 0 ∧ (makeL p1).getD 8 0 = 0 ∧ ((mendD (makeL p1)).getD []).length = 116 := by decide +kernel
theorem p1_l : laneP (makeL p1) 116 1 0 = some [(0, 8, 5)] := by decide +kernel
theorem p1_o : (logP (makeL p1) 116 1 0).length = 1 := by decide +kernel
theorem p1_p : poolB (makeL p1) = true → gNat (makeL p1).length ((makeL p1).getD 3 0) ≤ 40 := fun _ => by decide +kernel
theorem p1_B : GvB p1 := by
 refine ⟨by decide, by decide, fun x h => (by cases h), fun x h => (by cases h), fun x h => ?_, by decide, by decide, fun x h => (by cases h)⟩
 rw [show p1.items = [(0, 2, 0, [], [(0, 8, 5)])] from rfl, List.mem_singleton] at h
 subst h
 refine ⟨by decide, by decide, by decide, fun e h => (by cases h), fun o h => ?_⟩
 rw [List.mem_singleton] at h
 subst h
 decide
theorem p1_W : WL (makeL p1) := makeL_WL p1_B (by decide +kernel)
theorem EL.one {α : Type} [Inhabited α] {sz : Nat} {en : α → List Value} {w : World} {b : Nat} {x : α} (hb : b < w.heap.size) (h : ∀ j, j < sz → w.cell? ⟨b, j, none⟩ = (en x)[j]?) : EL sz en w (.slice (some ⟨b, 0, none⟩) 1 1) [x] :=
 ⟨some ⟨b, 0, none⟩, 1, rfl, fun _ => ⟨b, 0, rfl, hb, Nat.le_refl _, fun i hi j hj => by
   obtain rfl : i = 0 := by simp at hi; omega
   rw [Nat.zero_mul, Nat.zero_add]
   exact h j hj⟩⟩
theorem p1_few : fewB p1 = true := by decide
theorem p1_v (vI : Value) : gvV p1 (.slice none 0 0) (.slice none 0 0) vI (.slice none 0 0) = .agg #[.int .u8 0, .int .u8 0, .slice none 0 0, .slice none 0 0, vI, .int .u64 0, .int .u64 0, .slice none 0 0] := rfl
theorem p1_M {w : World} {vI vO : Value} (hI : EL 5 eIt w vI [(0, 2, 0, (.slice none 0 0, []), (vO, [(0, 8, 5)]))]) (hO : OPL w vO [(0, 8, 5)]) : GvM w (.slice none 0 0) (.slice none 0 0) vI (.slice none 0 0) [(0, 2, 0, (.slice none 0 0, []), (vO, [(0, 8, 5)]))] p1 :=
 ⟨⟨none, 0, rfl, fun h => by simp [p1] at h⟩, KL.nil _ _ _, hI, fun x hx => (by rw [List.mem_singleton] at hx; subst hx; exact EN.nil _), fun x hx => (by rw [List.mem_singleton] at hx; subst hx; exact hO), rfl, EL.nil _ _ _ _ _⟩
set_option maxRecDepth 10000 in
set_option maxHeartbeats 400000 in
theorem one_any (w : World) (hw : Lw w) : Calls Tryz.prog 25 #[] w fun e w' => ∃ v', e = .returned v' ∧ OwnU w' w.heap.size v' (makeL p1) ∧ Below w.heap.size w w' := by
 have e1 := (Below.refl w.heap.size w).alloc (Nat.le_refl _) (.cells #[.int .i64 0, .int .i64 8, .int .u64 5] (53 : Nat))
 have g1 := HB.new w #[.int .i64 0, .int .i64 8, .int .u64 5] (53 : Nat)
 obtain ⟨w1, hw1⟩ : ∃ x, w.alloc (.cells #[.int .i64 0, .int .i64 8, .int .u64 5] (53 : Nat)) = x := ⟨_, rfl⟩
 rw [hw1] at e1 g1
 have hs1 : w1.heap.size = w.heap.size + 1 := by rw [← hw1]; simp
 obtain ⟨B, hB⟩ : ∃ B, w.heap.size = B := ⟨_, rfl⟩
 have hBl : B < w1.heap.size := by omega
 have hOP : OPL w1 (.slice (some ⟨w.heap.size, 0, none⟩) 1 1) [(0, 8, 5)] := EL.one (by omega) (fun j hj => by
  have k0 := (row_cell g1 0).1
  have k1 := (row_cell g1 1).1
  have k2 := (row_cell g1 2).1
  obtain rfl | rfl | rfl : j = 0 ∨ j = 1 ∨ j = 2 := by omega
  ·exact k0
  ·exact k1
  ·exact k2)
 have e2 := (Below.refl w1.heap.size w1).alloc (Nat.le_refl _) (.cells #[.int .u8 0, .int .u8 2, .int .u64 0, .slice none 0 0, .slice (some ⟨w.heap.size, 0, none⟩) 1 1] (62 : Nat))
 have g2 := HB.new w1 #[.int .u8 0, .int .u8 2, .int .u64 0, .slice none 0 0, .slice (some ⟨w.heap.size, 0, none⟩) 1 1] (62 : Nat)
 have hOP2 := hOP.keep e2
 have hw2l := hw.keep (e1.trans (e2.mono (by omega)))
 have hb2 := e1.trans (e2.mono (by omega))
 have hsz : (w1.alloc (.cells #[.int .u8 0, .int .u8 2, .int .u64 0, .slice none 0 0, .slice (some ⟨w.heap.size, 0, none⟩) 1 1] (62 : Nat))).heap.size = w.heap.size + 2 := by simp [hs1]
 have hI : EL 5 eIt (w1.alloc (.cells #[.int .u8 0, .int .u8 2, .int .u64 0, .slice none 0 0, .slice (some ⟨w.heap.size, 0, none⟩) 1 1] (62 : Nat))) (.slice (some ⟨w1.heap.size, 0, none⟩) 1 1) [(0, 2, 0, (.slice none 0 0, []), (.slice (some ⟨w.heap.size, 0, none⟩) 1 1, [(0, 8, 5)]))] := EL.one (by omega) (fun j hj => by
  have k0 := (row_cell g2 0).1
  have k1 := (row_cell g2 1).1
  have k2 := (row_cell g2 2).1
  have k3 := (row_cell g2 3).1
  have k4 := (row_cell g2 4).1
  obtain rfl | rfl | rfl | rfl | rfl : j = 0 ∨ j = 1 ∨ j = 2 ∨ j = 3 ∨ j = 4 := by omega
  ·exact k0
  ·exact k1
  ·exact k2
  ·exact k3
  ·exact k4)
 have hMk := make_f0 p1 (.slice none 0 0) (.slice none 0 0) (.slice (some ⟨w1.heap.size, 0, none⟩) 1 1) (.slice none 0 0) _ _ hw2l (p1_M hI hOP2) p1_B p1_few (by decide)
 rw [hsz, p1_v] at hMk
 replace hMk := hMk.mono (fun e w' h => show ∃ v', e = .returned v' ∧ OwnU w' _ v' (makeL p1) ∧ Below _ _ w' from Exists.elim h (fun v' h => ⟨v', h.1, h.2.1, h.2.2.2⟩))
 rw [hs1, hB] at hMk
 rw [hB] at hb2 hs1 ⊢
 generalize makeL p1 = J at hMk ⊢
 clear hw2l hI hOP hOP2 g1 g2 e1 e2
 go_enter Tryz.func25, Tryz.ntmps25
 subst hw1
 go_wp2_with fail
 refine hMk.mono ?_
 rintro e w5 ⟨v', rfl, hO, hb5⟩
 have hb := hb2.trans (hb5.mono (by omega))
 have hO' : OwnU w5 B v' J := hO.mono (by omega)
 go_wp2_with fail
 go_ret
 exact ⟨_, rfl, hO', hb⟩
set_option maxRecDepth 10000 in
set_option maxHeartbeats 1000000 in
theorem awake15 (w : World) (hw : Lw w) : Calls Tryz.prog 9 #[] w fun e w' => e = .returned (.bool true) ∧ Below w.heap.size w w' := by
 have hOne := one_any w hw
 have hMe := Lib.hid (fun v w1 (h1 : Lw w1) (h2 : KL .u64 w1 v (makeL p1)) => mend_any v (makeL p1) w1 h1 p1_W h2 (by rw [p1_len]; omega))
 have hLa := Lib.hid (fun v w1 (h1 : Lw w1) (h2 : KL .u64 w1 v (makeL p1)) => mlane_any v (makeL p1) 116 1 0 w1 h1 p1_W h2 (by rw [p1_len]; omega))
 have hLo := Lib.hid (fun v w1 (h1 : Lw w1) (h2 : KL .u64 w1 v (makeL p1)) => log_any v (makeL p1) 116 1 0 w1 h1 p1_W h2 p1_p)
 rw [p1_l] at hLa
 rw [if_pos p1_m] at hMe
 obtain ⟨j8, j10, i8, jl⟩ := p1_g
 have il := p1_len
 have ol := p1_o
 generalize logP (makeL p1) 116 1 0 = P at hLo ol
 generalize (mendD (makeL p1)).getD [] = J at hMe j8 j10 jl
 generalize makeL p1 = I at hOne hMe hLa hLo i8 il
 replace j8 := Lib.hid j8
 replace j10 := Lib.hid j10
 replace jl := Lib.hid jl
 replace i8 := Lib.hid i8
 replace il := Lib.hid il
 replace ol := Lib.hid ol
 go_enter Tryz.func9, Tryz.ntmps9
 go_wp2_with fail
 refine hOne.mono ?_
 rintro e w1 ⟨v1, rfl, hO1, hb1⟩
 obtain ⟨A1, c1, rfl⟩ := hO1.sl il.out
 have hM1 := hMe.out _ w1 (hw.keep hb1) hO1.kl
 clear hOne
 go_wp2_with fail
 refine hM1.mono ?_
 rintro e w2 ⟨v2, rfl, hO2, hb2⟩
 have hb12 := hb1.trans (hb2.mono hb1.size)
 have hO12 := hO1.keep hb2
 have hL1 := hLa.out _ w2 (hw.keep hb12) hO12.kl
 obtain ⟨A2, c2, rfl⟩ := hO2.sl jl.out
 clear hM1
 go_wp2_with fail
 refine hL1.mono ?_
 rintro e w3 ⟨v3, rfl, hO3, hb3⟩
 have hb13 := hb12.trans (hb3.mono hb12.size)
 have hO13 := hO12.keep hb3
 have hO23 := hO2.keep hb3
 have hL3 := hLo.out _ w3 (hw.keep hb13) hO13.kl
 obtain ⟨A3, c3, rfl⟩ := EL.sl hO3
 simp only [Option.isSome_some, Option.getD_some, List.length_cons, List.length_nil, Nat.zero_add]
 obtain ⟨g1, rfl⟩ : ∃ g1, A1 = some ⟨g1, 0, none⟩ := by
  obtain ⟨A, c, h1, h2⟩ := hO1.form
  obtain ⟨g, h3, _⟩ := h2 (by rw [il.out]; omega)
  rw [il.out] at h1
  cases h1
  exact ⟨g, h3⟩
 obtain ⟨g2, rfl⟩ : ∃ g2, A2 = some ⟨g2, 0, none⟩ := by
  obtain ⟨A, c, h1, h2⟩ := hO2.form
  obtain ⟨g, h3, _⟩ := h2 (by rw [jl.out]; omega)
  rw [jl.out] at h1
  cases h1
  exact ⟨g, h3⟩
 have d1 := hO13.cell (i := 8) il.out (by omega)
 have d2 := hO23.cell (i := 8) jl.out (by omega)
 have d3 := hO23.cell (i := 10) jl.out (by omega)
 rw [i8.out] at d1
 rw [j8.out] at d2
 rw [j10.out] at d3
 replace d1 : w3.cell? ⟨g1, 8, none⟩ = some (.int .u64 0) := d1.1
 replace d2 : w3.cell? ⟨g2, 8, none⟩ = some (.int .u64 5) := d2.1
 replace d3 : w3.cell? ⟨g2, 10, none⟩ = some (.int .u64 0) := d3.1
 clear hL1
 go_wp2_with fail
 refine hL3.mono ?_
 rintro e w4 ⟨v4, rfl, hO4, hb4⟩
 have hb := hb13.trans (hb4.mono hb13.size)
 obtain ⟨A4, c4, rfl⟩ := OwnSp.sl hO4 ol.out
 go_wp2_with fail
 go_ret
 exact ⟨rfl, hb⟩
end Go.Proofs.YtkdhdibjbabgfaaGreatDoor
end
section
set_option linter.unusedVariables false
set_option linter.unusedSimpArgs false
namespace Go.Proofs.YtkdhdibjbabgfaaGreatDoor
open Go.Lib Go.RowKit Go.ChangeShapes Go.WideShapes Go.Deep Go.Shelf
theorem GvM.sl {w : World} {vT vF vI vS : Value} {xs : List ItV} {p : Gv} (h : GvM w vT vF vI vS xs p) : ∃ AT nT cT AF nF cF AI nI cI AS nS cS, vT = .slice AT nT cT ∧ vF = .slice AF nF cF ∧ vI = .slice AI nI cI ∧ vS = .slice AS nS cS := by
 obtain ⟨AT, cT, h1, -⟩ := h.t.form rfl
 obtain ⟨AF, cF, h2, -⟩ := h.f.form rfl
 obtain ⟨AI, cI, h3⟩ := EL.sl h.i
 obtain ⟨AS, cS, h4⟩ := EL.sl h.s
 exact ⟨AT, _, cT, AF, _, cF, AI, _, cI, AS, _, cS, h1, h2, h3, h4⟩
theorem make_any (p : Gv) (vT vF vI vS : Value) (xs : List ItV) (w : World) (hw : Lw w) (hM : GvM w vT vF vI vS xs p) (hB : GvB p) (hfw : fewB p = true) :
 Calls Tryz.prog 11 #[gvV p vT vF vI vS] w fun e w' => ∃ v', e = .returned v' ∧ OwnU w' w.heap.size v' (makeL p) ∧ Hid (WL (makeL p)) ∧ Below w.heap.size w w' := by
 by_cases h : p.fill.length = 0
 ·exact (make_f0 p vT vF vI vS xs w hw hM hB hfw h).mono (fun e w' h => Exists.elim h (fun v' h => ⟨v', h.1, h.2.1, Lib.hid (makeL_WL hB h.2.2.1), h.2.2.2⟩))
 ·exact (make_f1 p vT vF vI vS xs w hw hM hB hfw (by omega)).mono (fun e w' h => Exists.elim h (fun v' h => ⟨v', h.1, h.2.1, Lib.hid (makeL_WL hB h.2.2.1), h.2.2.2⟩))
theorem gv_len (p : Gv) : (makeL p).length = gvN p ∧ gvN p ≤ 493 := by
 refine ⟨makeL_len p, ?_⟩
 obtain ⟨_, _, _, h1, h2, h3, h4⟩ := gv_geo p
 show 10 + 73 * gvL p + 33 * gvG p ≤ 493
 omega
theorem pool40 {I : List Nat} (hN : I.length ≤ 800) : poolB I = true → gNat I.length (I.getD 3 0) ≤ 40 := fun h => by
 have := (pool_size (gOk_pool (pool_t h).1).2).2.2.2.2.2.2.2
 omega
theorem mend_WL {I J : List Nat} (hW : WL I) (hN : I.length ≤ 800) (h : mendD I = some J) : WL J := by
 obtain ⟨hp, ops, hl, rfl⟩ := mend_t h
 exact restL_WL (applyL_WL (lanes_OV hW (gOk_pool (pool_t hp).1).2 hN (Nat.le_refl _) hl) hW)
end Go.Proofs.YtkdhdibjbabgfaaGreatDoor
end
section
set_option linter.unusedVariables false
set_option linter.unusedSimpArgs false
namespace Go.Proofs.YtkdhdibjbabgfaaGreatDoor
open Go.Lib Go.RowKit Go.ChangeShapes Go.WideShapes Go.Deep Go.Shelf
set_option maxRecDepth 10000 in
set_option maxHeartbeats 2000000 in
theorem mendAgain (g : Gx) (w : World) (hw : Lw w) (hg : GOk w g) :
 Calls Tryz.prog 6 #[gxV g] w fun e w' => e = .returned (.bool true) ∧ Below w.heap.size w w' := by
 obtain ⟨⟨vT, vF, vI, vS⟩, xs, p⟩ := g
 obtain ⟨hM, hB⟩ := hg
 simp only [] at hM hB
 obtain ⟨AT, nT, cT, AF, nF, cF, AI, nI, cI, AS, nS, cS, rfl, rfl, rfl, rfl⟩ := hM.sl
 have hA := (Below.refl w.heap.size w).alloc (Nat.le_refl _) (.cells #[.int .u8 (p.a : Nat), .int .u8 (p.b : Nat), .slice AT nT cT, .slice AF nF cF, .slice AI nI cI, .int .u64 (p.root : Nat), .int .u64 (p.epoch : Nat), .slice AS nS cS] 28)
 have gA := HB.new w #[.int .u8 (p.a : Nat), .int .u8 (p.b : Nat), .slice AT nT cT, .slice AF nF cF, .slice AI nI cI, .int .u64 (p.root : Nat), .int .u64 (p.epoch : Nat), .slice AS nS cS] 28
 obtain ⟨wa, hwa⟩ : ∃ x, w.alloc (.cells #[.int .u8 (p.a : Nat), .int .u8 (p.b : Nat), .slice AT nT cT, .slice AF nF cF, .slice AI nI cI, .int .u64 (p.root : Nat), .int .u64 (p.epoch : Nat), .slice AS nS cS] 28) = x := ⟨_, rfl⟩
 have hsa : wa.heap.size = w.heap.size + 1 := by rw [← hwa]; simp
 rw [hwa] at hA gA
 have hAw := awake15 wa (hw.keep hA)
 have hFe := Lib.hid (fun w1 (hb : Below w.heap.size w w1) => few_any15 p _ _ _ _ xs w1 (hM.keep hb))
 have hMk := Lib.hid (fun w1 (hb : Below w.heap.size w w1) (hf : fewB p = true) => make_any p _ _ _ _ xs w1 (hw.keep hb) (hM.keep hb) hB hf)
 have hGe := Lib.hid (fun w1 => geom_any p AT AF AI AS nT cT nF cF nI cI nS cS w1 hB)
 obtain ⟨hl1, hl2⟩ := gv_len p
 obtain ⟨N, hN⟩ : ∃ N, gvN p = N := ⟨_, rfl⟩
 obtain ⟨L, hL⟩ : ∃ L, gvL p = L := ⟨_, rfl⟩
 have hL3 : L ≤ 3 := by have := gv_geo p; omega
 have hL1 : 1 ≤ L := by have := gv_geo p; omega
 rw [hN] at hl1 hl2
 rw [hN, hL] at hGe
 have hwk := Lib.hid (fun w1 (hb : Below w.heap.size w w1) => hw.keep hb)
 obtain ⟨I, hI⟩ : ∃ I, makeL p = I := ⟨_, rfl⟩
 rw [hI] at hl1 hMk
 replace hI := Lib.hid hI
 replace hN := Lib.hid hN
 replace hL := Lib.hid hL
 replace hl1 := Lib.hid hl1
 show Calls Tryz.prog _ #[.agg #[.int .u8 (p.a : Nat), .int .u8 (p.b : Nat), .slice AT nT cT, .slice AF nF cF, .slice AI nI cI, .int .u64 (p.root : Nat), .int .u64 (p.epoch : Nat), .slice AS nS cS]] w _
 unfold gvV at hFe hMk hGe
 clear hM hB hw
 go_enter Tryz.func6, Tryz.ntmps6
 subst hwa
 go_wp2_with fail
 refine hAw.mono ?_
 rintro e w1 ⟨rfl, hb1⟩
 have hA1 := hA.trans (hb1.mono hA.size)
 have gA1 := gA.keep hb1
 have p0 := (row_cell gA1 0).1
 have p1 := (row_cell gA1 1).1
 have p2 := (row_cell gA1 2).1
 have p3 := (row_cell gA1 3).1
 have p4 := (row_cell gA1 4).1
 have p5 := (row_cell gA1 5).1
 have p6 := (row_cell gA1 6).1
 have p7 := (row_cell gA1 7).1
 clear hAw gA hA hb1
 go_wp2_with fail
 refine (hFe.out _ hA1).mono ?_
 rintro e w2 ⟨rfl, hb2⟩
 have hA2 := hA1.trans (hb2.mono hA1.size)
 have gA2 := gA1.keep hb2
 clear p0 p1 p2 p3 p4 p5 p6 p7 gA1 hA1 hb2
 have p0 := (row_cell gA2 0).1
 have p1 := (row_cell gA2 1).1
 have p2 := (row_cell gA2 2).1
 have p3 := (row_cell gA2 3).1
 have p4 := (row_cell gA2 4).1
 have p5 := (row_cell gA2 5).1
 have p6 := (row_cell gA2 6).1
 have p7 := (row_cell gA2 7).1
 cases hfew : fewB p with
 | false =>
   go_wp2_with fail
   go_ret
   exact ⟨rfl, hA2⟩
 | true =>
   have hMk2 := hMk.out _ hA2 hfew
   clear hMk hFe hfew
   go_wp2_with fail
   refine hMk2.mono ?_
   rintro e w3 ⟨v3, rfl, hO3, hW, hb3⟩
   have hA3 := hA2.trans (hb3.mono hA2.size)
   have gA3 := gA2.keep hb3
   clear p0 p1 p2 p3 p4 p5 p6 p7 gA2 hMk2
   obtain ⟨A3, c3, rfl⟩ := hO3.sl hl1.out
   have p0 := (row_cell gA3 0).1
   have p1 := (row_cell gA3 1).1
   have p2 := (row_cell gA3 2).1
   have p3 := (row_cell gA3 3).1
   have p4 := (row_cell gA3 4).1
   have p5 := (row_cell gA3 5).1
   have p6 := (row_cell gA3 6).1
   have p7 := (row_cell gA3 7).1
   have hMe := mend_any (.slice A3 N c3) I w3 (hwk.out _ hA3) hW.out hO3.kl (by have := hl1.out; omega)
   go_wp2_with fail
   refine hMe.mono ?_
   rintro e w4 ⟨v4, rfl, hO4, hb4⟩
   have hA4 := hA3.trans (hb4.mono hA3.size)
   have gA4 := gA3.keep hb4
   clear p0 p1 p2 p3 p4 p5 p6 p7 gA3 hMe hO3 hb3
   cases hmd : mendD I with
   | none =>
     rw [hmd] at hO4
     simp only [Option.isSome_none, Option.getD_none, Bool.false_eq_true, if_false] at hO4 ⊢
     obtain ⟨A4, c4, rfl⟩ := hO4.sl (show ([] : List Nat).length = 0 from rfl)
     go_wp2_with fail
     go_ret
     exact ⟨rfl, hA4⟩
   | some J =>
     rw [hmd] at hO4
     simp only [Option.isSome_some, Option.getD_some, if_true] at hO4 ⊢
     have hJl : J.length = N := (mend_head hmd).1.trans hl1.out
     have hJW := Lib.hid (mend_WL hW.out (by have := hl1.out; omega) hmd)
     have hag := Lib.hid (fun W L ln => again_lane hmd W L ln)
     have hag2 := Lib.hid (mend_again hmd)
     have hJ8 : J.length ≤ 800 := by omega
     have hJ4 := Lib.hid (pool40 hJ8)
     obtain ⟨A4, c4, rfl⟩ := hO4.sl hJl
     replace hJl := Lib.hid hJl
     clear hmd hW hb4
     have p0 := (row_cell gA4 0).1
     have p1 := (row_cell gA4 1).1
     have p2 := (row_cell gA4 2).1
     have p3 := (row_cell gA4 3).1
     have p4 := (row_cell gA4 4).1
     have p5 := (row_cell gA4 5).1
     have p6 := (row_cell gA4 6).1
     have p7 := (row_cell gA4 7).1
     go_wp2_with fail
     refine (hGe.out _).mono ?_
     rintro e w5 ⟨rfl, hb5⟩
     have hA5 := hA4.trans (hb5.mono hA4.size)
     have hO5 := hO4.keep hb5
     have gG := HB.new w5 #[.int .i64 (N : Nat), .int .i64 (L : Nat)] 33
     have e6 := (Below.refl w5.heap.size w5).alloc (Nat.le_refl _) (.cells #[.int .i64 (N : Nat), .int .i64 (L : Nat)] 33)
     have hO6 := hO5.keep e6
     have hA6 := hA5.trans (e6.mono hA5.size)
     obtain ⟨G, hGs⟩ : ∃ G, w5.heap.size = G := ⟨_, rfl⟩
     rw [hGs] at gG
     replace hO6 := hO6.mono (b2 := w.heap.size) hA3.size
     clear p0 p1 p2 p3 p4 p5 p6 p7 gA4 hA5 hA4 hA3 hA2 hO4 hO5 hb5 e6 hGe
     go_wp2_with fail
     go_loopw [8] (fun i wr => ∃ (j : Nat), j ≤ L ∧ i = .int .i64 (j : Nat) ∧ HB wr G #[.int .i64 (N : Nat), .int .i64 (L : Nat)] 33 ∧ OwnU wr w.heap.size (.slice A4 N c4) J ∧ Below w.heap.size w wr) (fun i _ => L - (intOf i).toNat)
     case atStart => exact ⟨0, Nat.zero_le _, rfl, gG, hO6, hA6⟩
     case round =>
      obtain ⟨j, hj, rfl, gr, hOr, hAr⟩ := hrel
      clear gG hO6 hA6
      obtain ⟨q0, q1⟩ := gr.c2
      by_cases hlt : j < L
      ·have hlt' : (j : Int) < (L : Int) := by omega
       have hLa := mlane_any (.slice A4 N c4) J (N : Nat) (L : Nat) (j : Nat) wr (hwk.out _ hAr) hJW.out hOr.kl hJ8
       go_wp2_with fail
       refine hLa.mono ?_
       rintro e w7 ⟨v7, rfl, hO7, hb7⟩
       have hA7 := hAr.trans (hb7.mono hAr.size)
       have g7 := gr.keep hb7
       have hU7 := hOr.keep hb7
       clear q0 q1 hLa gr hOr
       obtain ⟨q0, q1⟩ := g7.c2
       rcases hag.out (N : Nat) (L : Nat) (j : Nat) with ⟨hb, hp⟩ | ⟨hb, hp, hlg⟩
       ·rw [hp] at hO7 ⊢
        simp only [Option.isSome_none, Option.getD_none] at hO7 ⊢
        obtain ⟨A7, c7, rfl⟩ := EL.sl hO7
        simp only [List.length_nil]
        clear hp hb hO7 hb7 hAr
        go_wp2_with fail
        go_roundw
        case rel => exact ⟨j + 1, by omega, by go_num, g7, hU7, hA7⟩
        case measure => first | (simp [intOf]; done) | (simp [intOf]; omega)
       ·rw [hp] at hO7 ⊢
        simp only [Option.isSome_some, Option.getD_some] at hO7 ⊢
        obtain ⟨A7, c7, rfl⟩ := EL.sl hO7
        simp only [List.length_nil]
        have hLo := log_any (.slice A4 N c4) J (N : Nat) (L : Nat) (j : Nat) w7 (hwk.out _ hA7) hJW.out hU7.kl hJ4.out
        clear hp hb hO7 hb7 hAr
        go_wp2_with fail
        refine hLo.mono ?_
        rintro e w8 ⟨v8, rfl, hO8, hb8⟩
        have hA8 := hA7.trans (hb8.mono hA7.size)
        have g8 := g7.keep hb8
        have hU8 := hU7.keep hb8
        obtain ⟨A8, c8, rfl⟩ := OwnSp.sl hO8 hlg
        clear hLo hO8 hb8 hA7 g7 hU7 q0 q1 hlg
        obtain ⟨q0, q1⟩ := g8.c2
        go_wp2_with fail
        go_roundw
        case rel => exact ⟨j + 1, by omega, by go_num, g8, hU8, hA8⟩
        case measure => first | (simp [intOf]; done) | (simp [intOf]; omega)
      ·obtain rfl : L = j := by omega
       have hMe2 := mend_any (.slice A4 N c4) J wr (hwk.out _ hAr) hJW.out hOr.kl hJ8
       go_wp2_with fail
       refine hMe2.mono ?_
       rintro e w7 ⟨v7, rfl, hO7, hb7⟩
       have hA7 := hAr.trans (hb7.mono hAr.size)
       have hU7 := hOr.keep hb7
       clear hMe2 q0 q1 gr hOr hb7 hAr
       rcases hag2.out with h | h
       ·rw [h] at hO7 ⊢
        simp only [Option.isSome_none, Option.getD_none, Bool.false_eq_true, if_false] at hO7 ⊢
        clear h
        go_wp2_with fail
        go_ret
        exact ⟨rfl, hA7⟩
       ·rw [h] at hO7 ⊢
        simp only [Option.isSome_some, Option.getD_some, if_true] at hO7 ⊢
        have hWo := words_any (.slice A4 N c4) v7 J J w7 (by omega) hU7.kl hO7.kl
        rw [decide_eq_true rfl] at hWo
        clear h hO7
        go_wp2_with fail
        refine hWo.mono ?_
        rintro e w8 ⟨rfl, hb8⟩
        have hA8 := hA7.trans (hb8.mono hA7.size)
        go_wp2_with fail
        go_ret
        exact ⟨rfl, hA8⟩
end Go.Proofs.YtkdhdibjbabgfaaGreatDoor
end
