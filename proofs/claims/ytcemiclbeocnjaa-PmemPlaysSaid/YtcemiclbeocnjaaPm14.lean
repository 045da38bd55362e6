/-
  Layer 3 (pmem): the document's Store, Flush.
-/
import Derived.Test.YtcemiclbeocnjaaPm13
set_option linter.unusedVariables false
set_option linter.unusedSimpArgs false
namespace Go.Proofs.Ytcemiclbeocnjaa
open Go.RowKit Go.ChangeShapes Go.WideShapes Go.Deep Go.Maps

theorem getD_set_same {α : Type} [Inhabited α] {l : List α} {i : Nat} {x : α} (h : i < l.length) : (l.set i x).getD i default = x := by
  rw [List.getD_eq_getElem?_getD, List.getElem?_set, if_pos rfl, if_pos h]; rfl
theorem getD_set_other {α : Type} {l : List α} {i j : Nat} {x d : α} (h : j ≠ i) : (l.set i x).getD j d = l.getD j d := by
  rw [List.getD_eq_getElem?_getD, List.getElem?_set, if_neg (fun e => h e.symm), ← List.getD_eq_getElem?_getD]

set_option maxRecDepth 10000 in
set_option maxHeartbeats 2000000 in
theorem rStore (B : Nat) (F : Nat → Prop) (s : Dv) (x : Int) (v : Nat) (w : World) (h : RvAt w B F s) (hg : GoodD s) :
    Calls Try.prog 54 #[.pointer (some ⟨B, 0, none⟩), .int .i64 x, .int .u64 (v : Nat)] w fun e w' => e = .returned (.tuple #[]) ∧ RvAt w' B F (storeD s x v) ∧ Chg F w w' := by
  have hS := rStep B F s w h hg
  have hAt := Lib.hid h
  obtain ⟨v0, W, hR, hW⟩ := h
  obtain ⟨⟨c0, c1, c2, c3⟩, fz⟩ := hR.cells
  have hWl := hW.1
  have hlen := hg.len
  obtain ⟨A, cap, rfl⟩ := hR.len
  clear c1 c2 c3 fz hR hW
  unfold storeD
  by_cases k1 : x < 0
  · rw [if_neg (by simp [hasD]; omega)]
    clear hS hg
    go_enter Try.func54, Try.ntmps54
    go_wp2_with fail
    refine bodyPost_ret (results_none rfl _ _ _) rfl ?_
    exact ⟨rfl, hAt.out, Chg.refl _ _⟩
  · obtain ⟨i, rfl⟩ := Int.eq_ofNat_of_zero_le (show 0 ≤ x by omega)
    by_cases k2 : i < s.L.length
    · rw [if_pos (by simp [hasD]; omega)]
      obtain ⟨N, hN⟩ : ∃ N, s.L.length = N := ⟨_, rfl⟩
      rw [hWl, hN] at c0
      rw [hN] at k2 hlen
      have k3 : (i : Int) < (N : Int) := by omega
      replace hN := Lib.hid hN
      have hse := Lib.hid (stepD_same s)
      clear hg hWl
      cases hd : doneD s with
      | false =>
        rw [hd] at hS
        rw [if_neg (by simp)]
        go_enter Try.func54, Try.ntmps54
        go_wp2_with (go_at_call 84; refine hS.mono ?_; rintro e w2 ⟨rfl, h2, hc2⟩; clear hS)
        go_end0
        exact ⟨rfl, h2, hc2⟩
      | true =>
        rw [hd] at hS
        rw [if_pos rfl]
        go_enter Try.func54, Try.ntmps54
        go_wp2_with (go_at_call 84; refine hS.mono ?_; rintro e w2 ⟨rfl, h2, hc2⟩; clear hS
                     obtain ⟨v0, W, hM, hW⟩ := h2
                     have hWN : W.length = N := by rw [hW.1, hse.out.1, hN.out]
                     obtain ⟨g, cap2, rfl, hgF, hgl⟩ := hM.form (by omega)
                     obtain ⟨d0, d1, d2, d3⟩ := hM.cells.1
                     rw [hWN] at d0 hM
                     obtain ⟨y, hy⟩ : ∃ y, W.getD i default = y := ⟨_, rfl⟩
                     have hat := hW.2 i (by omega)
                     rw [hy] at hat
                     obtain ⟨y0, y1, y2, y3, y4⟩ := y
                     have hM1 := hM.wset (j := 3) (u := .bool true) (x := (y0, y1, y2, true, y4)) hWN k2 (by decide) (by rw [hy]; rfl)
                     have hM2 := hM1.wset (j := 1) (u := .int .u64 (v : Nat)) (x := (y0, v, y2, true, y4)) (by rw [List.length_set]; exact hWN) k2 (by decide) (by rw [getD_set_same (by omega)]; rfl)
                     rw [List.set_set] at hM2
                     obtain ⟨p3, z3⟩ := hM.row.cell wE_len hWN k2 (j := 3) (by decide)
                     obtain ⟨p1, z1⟩ := hM1.row.cell wE_len (by rw [List.length_set]; exact hWN) k2 (j := 1) (by decide)
                     obtain ⟨u3, p3⟩ : ∃ u, w2.cell? ⟨g, i * 5 + 3, none⟩ = some u := ⟨_, by rw [p3, hy]; rfl⟩
                     obtain ⟨u1, p1⟩ : ∃ u, (w2.setCell ⟨g, i * 5 + 3, none⟩ (.bool true)).cell? ⟨g, i * 5 + 1, none⟩ = some u := ⟨_, by rw [p1, getD_set_same (by omega)]; rfl⟩
                     obtain ⟨dd0, _⟩ := hM1.cells.1
                     have hWf := Lib.hid (show WRel { stepD s with c := putU s.c (i : Int) v, n := s.n + 1 } (W.set i (y0, v, y2, true, y4)) from by
                       obtain ⟨q1, q2, q3, q4⟩ := hse.out
                       obtain ⟨r1, r2, r3, r4, r5⟩ := hat
                       refine hW.set ⟨r1, ?_, fun a ha => ?_, r4, r5⟩ rfl (fun j hj _ => ⟨rfl, ?_, rfl⟩)
                       · simp [putU]
                       · simp only [putU, if_pos] at ha
                         cases ha; rfl
                       · simp only [putU, if_neg (show ¬ (j : Int) = (i : Int) by omega), q2])
                     have hcf := Lib.hid ((hc2.trans (Chg.setCell w2 g (i * 5 + 3) (.bool true) hgF) (fun j q => .inl q)).trans (Chg.setCell (w2.setCell ⟨g, i * 5 + 3, none⟩ (.bool true)) g (i * 5 + 1) (.int .u64 (v : Nat)) hgF) (fun j q => .inl q))
                     replace hM2 := Lib.hid hM2
                     clear hM hM1 hW hat hy hc2 d1 d2 d3 c0)
        go_end0
        exact ⟨rfl, ⟨_, _, ⟨hM2.out.blk, hM2.out.row, hM2.out.fB, hM2.out.f0, hM2.out.lt⟩, hWf.out⟩, hcf.out⟩
    · rw [if_neg (by simp [hasD]; omega)]
      rw [hWl] at c0
      generalize s.L.length = N at *
      have k3 : (N : Int) ≤ (i : Int) := by omega
      clear hS hg
      go_enter Try.func54, Try.ntmps54
      go_wp2_with fail
      refine bodyPost_ret (results_none rfl _ _ _) rfl ?_
      exact ⟨rfl, hAt.out, Chg.refl _ _⟩
end Go.Proofs.Ytcemiclbeocnjaa
