/-
  Part of the proof of MendWhole.
-/
import Derived.Test.YtkdhdibjbabgfaaGreatDoorVw48
import Derived.Test.YtkdhdibjbabgfaaGreatDoorVw50
import Derived.Test.YtkdhdibjbabgfaaGreatDoorVw0
set_option maxRecDepth 10000
set_option maxHeartbeats 2000000
set_option linter.unusedVariables false
set_option linter.unusedSimpArgs false
namespace Go.Proofs.YtkdhdibjbabgfaaGreatDoor
open Go.Lib Go.RowKit Go.ChangeShapes Go.WideShapes Go.Deep Go.Shelf
theorem mendWhole (g : Gx) (w : World) (hw : Lw w) (hg : GOk w g) :
 Calls Tryz.prog 4 #[gxV g] w fun e w' => e = .returned (.bool true) ∧ Below w.heap.size w w' := by
 obtain ⟨⟨vT, vF, vI, vS⟩, xs, p⟩ := g
 obtain ⟨hM, hB⟩ := hg
 simp only [] at hM hB
 obtain ⟨AT, nT, cT, AF, nF, cF, AI, nI, cI, AS, nS, cS, rfl, rfl, rfl, rfl⟩ := hM.sl
 have hA := bZ w (.cells #[.int .u8 (p.a : Nat), .int .u8 (p.b : Nat), .slice AT nT cT, .slice AF nF cF, .slice AI nI cI, .int .u64 (p.root : Nat), .int .u64 (p.epoch : Nat), .slice AS nS cS] 28)
 have gA := HB.new w #[.int .u8 (p.a : Nat), .int .u8 (p.b : Nat), .slice AT nT cT, .slice AF nF cF, .slice AI nI cI, .int .u64 (p.root : Nat), .int .u64 (p.epoch : Nat), .slice AS nS cS] 28
 obtain ⟨wa, hwa⟩ : ∃ x, w.alloc (.cells #[.int .u8 (p.a : Nat), .int .u8 (p.b : Nat), .slice AT nT cT, .slice AF nF cF, .slice AI nI cI, .int .u64 (p.root : Nat), .int .u64 (p.epoch : Nat), .slice AS nS cS] 28) = x := ⟨_, rfl⟩
 have hsa : wa.heap.size = w.heap.size + 1 := by rw [← hwa]; simp
 rw [hwa] at hA gA
 have hAw := awake15 wa (hw.keep hA)
 have hFe := lh (fun w1 (hb : Below w.heap.size w w1) => few_any15 p _ _ _ _ xs w1 (hM.keep hb))
 have hMk := lh (fun w1 (hb : Below w.heap.size w w1) (hf : fewB p = true) => make_any p _ _ _ _ xs w1 (hw.keep hb) (hM.keep hb) hB hf)
 have hGe := lh (fun w1 => geom_any p AT AF AI AS nT cT nF cF nI cI nS cS w1 hB)
 obtain ⟨hl1, hl2⟩ := gv_len p
 obtain ⟨N, hN⟩ : ∃ N, gvN p = N := ⟨_, rfl⟩
 obtain ⟨L, hL⟩ : ∃ L, gvL p = L := ⟨_, rfl⟩
 have hL3 : L ≤ 3 := by have := gv_geo p; omega
 have hL1 : 1 ≤ L := by have := gv_geo p; omega
 rw [hN] at hl1 hl2
 rw [hN, hL] at hGe
 have hwk := lh (fun w1 (hb : Below w.heap.size w w1) => hw.keep hb)
 obtain ⟨I, hI⟩ : ∃ I, makeL p = I := ⟨_, rfl⟩
 rw [hI] at hl1 hMk
 replace hI := lh hI
 replace hN := lh hN
 replace hL := lh hL
 replace hl1 := lh hl1
 show Calls Tryz.prog _ #[.agg #[.int .u8 (p.a : Nat), .int .u8 (p.b : Nat), .slice AT nT cT, .slice AF nF cF, .slice AI nI cI, .int .u64 (p.root : Nat), .int .u64 (p.epoch : Nat), .slice AS nS cS]] w _
 unfold gvV at hFe hMk hGe
 clear hM hB hw
 go_enter Tryz.func4, Tryz.ntmps4
 subst hwa
 go_wp2_with fail
 refine hAw.mono ?_
 rintro e w1 ⟨rfl, hb1⟩
 have hA1 := hA.trans (hb1.mono hA.size)
 have gA1 := gA.keep hb1
 have p0 := (row_cell gA1 0).1
 have p1 := (row_cell gA1 1).1
 have p2 := (row_cell gA1 2).1
 have p3 := (row_cell gA1 3).1
 have p4 := (row_cell gA1 4).1
 have p5 := (row_cell gA1 5).1
 have p6 := (row_cell gA1 6).1
 have p7 := (row_cell gA1 7).1
 clear hAw gA hA hb1
 go_wp2_with fail
 refine (hFe.out _ hA1).mono ?_
 rintro e w2 ⟨rfl, hb2⟩
 have hA2 := hA1.trans (hb2.mono hA1.size)
 have gA2 := gA1.keep hb2
 clear p0 p1 p2 p3 p4 p5 p6 p7 gA1 hA1 hb2
 have p0 := (row_cell gA2 0).1
 have p1 := (row_cell gA2 1).1
 have p2 := (row_cell gA2 2).1
 have p3 := (row_cell gA2 3).1
 have p4 := (row_cell gA2 4).1
 have p5 := (row_cell gA2 5).1
 have p6 := (row_cell gA2 6).1
 have p7 := (row_cell gA2 7).1
 cases hfew : fewB p with
 | false =>
   go_wp2_with fail
   go_ret
   exact ⟨rfl, hA2⟩
 | true =>
   have hMk2 := hMk.out _ hA2 hfew
   clear hFe
   go_wp2_with fail
   refine hMk2.mono ?_
   rintro e w3 ⟨v3, rfl, hO3, hW, hb3⟩
   have hA3 := hA2.trans (hb3.mono hA2.size)
   have gA3 := gA2.keep hb3
   clear p0 p1 p2 p3 p4 p5 p6 p7 gA2 hMk2
   obtain ⟨A3, c3, rfl⟩ := hO3.sl hl1.out
   have p0 := (row_cell gA3 0).1
   have p1 := (row_cell gA3 1).1
   have p2 := (row_cell gA3 2).1
   have p3 := (row_cell gA3 3).1
   have p4 := (row_cell gA3 4).1
   have p5 := (row_cell gA3 5).1
   have p6 := (row_cell gA3 6).1
   have p7 := (row_cell gA3 7).1
   have hMe := mend_any (.slice A3 N c3) I w3 (hwk.out _ hA3) hW.out hO3.kl (by have := hl1.out; omega)
   rw [show (if (mendD I).isSome = true then (0 : Int) else 7) = mendE I from rfl] at hMe
   have hJb : ((mendD I).getD []).length ≤ 1000000 := by
    cases hm : mendD I with
    | none => show 0 ≤ _; omega
    | some J => show J.length ≤ _; have := (mend_head hm).1; have := hl1.out; omega
   go_wp2_with fail
   refine hMe.mono ?_
   rintro e w4 ⟨v4, rfl, hO4, hb4⟩
   have hA4 := hA3.trans (hb4.mono hA3.size)
   have gA4 := gA3.keep hb4
   have hI4 := hO3.keep hb4
   have hRm := rmend_any (.slice A3 N c3) I w4 (hwk.out _ hA4) hW.out hI4.kl (by have := hl1.out; omega)
   clear p0 p1 p2 p3 p4 p5 p6 p7 gA3 hMe hO3 hb3
   go_wp2_with fail
   refine hRm.mono ?_
   rintro e w5 ⟨v5, rfl, hO5, hb5⟩
   have hA5 := hA4.trans (hb5.mono hA4.size)
   have gA5 := gA4.keep hb5
   have hI5 := hI4.keep hb5
   have hJ5 := hO4.keep hb5
   have hWo := words_any v4 v5 _ _ w5 hJb hJ5.kl hO5.kl
   rw [decide_eq_true rfl] at hWo
   generalize mendE I = me at *
   generalize (mendD I).getD [] = J at *
   clear gA4 hRm hI4 hO4 hb4
   have p0 := (row_cell gA5 0).1
   have p1 := (row_cell gA5 1).1
   have p2 := (row_cell gA5 2).1
   have p3 := (row_cell gA5 3).1
   have p4 := (row_cell gA5 4).1
   have p5 := (row_cell gA5 5).1
   have p6 := (row_cell gA5 6).1
   have p7 := (row_cell gA5 7).1
   go_wp2_with fail
   refine hWo.mono ?_
   rintro e w6 ⟨rfl, hb6⟩
   have hA6 := hA5.trans (hb6.mono hA5.size)
   have gA6 := gA5.keep hb6
   have hI6 := hI5.keep hb6
   have hMk6 := hMk.out _ hA6 hfew
   clear p0 p1 p2 p3 p4 p5 p6 p7 hWo gA5 hI5 hJ5 hO5
   have p0 := (row_cell gA6 0).1
   have p1 := (row_cell gA6 1).1
   have p2 := (row_cell gA6 2).1
   have p3 := (row_cell gA6 3).1
   have p4 := (row_cell gA6 4).1
   have p5 := (row_cell gA6 5).1
   have p6 := (row_cell gA6 6).1
   have p7 := (row_cell gA6 7).1
   go_wp2_with fail
   refine hMk6.mono ?_
   rintro e w7 ⟨v7, rfl, hO7, -, hb7⟩
   have hA7 := hA6.trans (hb7.mono hA6.size)
   have hI7 := hI6.keep hb7
   have hW7 := words_any (.slice A3 N c3) v7 I I w7 (by have := hl1.out; omega) hI7.kl hO7.kl
   rw [decide_eq_true rfl] at hW7
   go_wp2_with fail
   refine hW7.mono ?_
   rintro e w8 ⟨rfl, hb8⟩
   have hA8 := hA7.trans (hb8.mono hA7.size)
   go_wp2_with fail
   go_ret
   exact ⟨rfl, hA8⟩
end Go.Proofs.YtkdhdibjbabgfaaGreatDoor
