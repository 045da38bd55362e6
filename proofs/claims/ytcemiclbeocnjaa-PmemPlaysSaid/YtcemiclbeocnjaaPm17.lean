/-
  Layer 3 (pmem): the document's Evict.
-/
import Derived.Test.YtcemiclbeocnjaaPm16
set_option linter.unusedVariables false
set_option linter.unusedSimpArgs false
namespace Go.Proofs.Ytcemiclbeocnjaa
open Go.RowKit Go.ChangeShapes Go.WideShapes Go.Deep Go.Maps

theorem RvM.wset5 {F : Nat → Prop} {w : World} {B g cap N i : Nat} {s : Dv} {W : List Wd} (x0 x1 x2 : Nat) (x3 x4 : Bool) (h : RvM w B (.slice (some ⟨g, 0, none⟩) N cap) F s W) (hN : W.length = N) (hi : i < N) :
    RvM (((((w.setCell ⟨g, i * 5, none⟩ (.int .u64 (x0 : Nat))).setCell ⟨g, i * 5 + 1, none⟩ (.int .u64 (x1 : Nat))).setCell ⟨g, i * 5 + 2, none⟩ (.int .u64 (x2 : Nat))).setCell ⟨g, i * 5 + 3, none⟩ (.bool x3)).setCell ⟨g, i * 5 + 4, none⟩ (.bool x4)) B (.slice (some ⟨g, 0, none⟩) N cap) F s (W.set i (x0, x1, x2, x3, x4)) := by
  obtain ⟨y, hy⟩ : ∃ y, W.getD i default = y := ⟨_, rfl⟩
  obtain ⟨y0, y1, y2, y3, y4⟩ := y
  have hl : ∀ z : Wd, (W.set i z).length = N := fun z => by rw [List.length_set]; exact hN
  have hg : ∀ z : Wd, (W.set i z).getD i default = z := fun z => getD_set_same (by omega)
  have h0 := h.wset (j := 0) (u := .int .u64 (x0 : Nat)) (x := (x0, y1, y2, y3, y4)) hN hi (by decide) (by rw [hy]; rfl)
  have h1 := h0.wset (j := 1) (u := .int .u64 (x1 : Nat)) (x := (x0, x1, y2, y3, y4)) (hl _) hi (by decide) (by rw [hg]; rfl)
  rw [List.set_set] at h1
  have h2 := h1.wset (j := 2) (u := .int .u64 (x2 : Nat)) (x := (x0, x1, x2, y3, y4)) (hl _) hi (by decide) (by rw [hg]; rfl)
  rw [List.set_set] at h2
  have h3 := h2.wset (j := 3) (u := .bool x3) (x := (x0, x1, x2, x3, y4)) (hl _) hi (by decide) (by rw [hg]; rfl)
  rw [List.set_set] at h3
  have h4 := h3.wset (j := 4) (u := .bool x4) (x := (x0, x1, x2, x3, x4)) (hl _) hi (by decide) (by rw [hg]; rfl)
  rw [List.set_set] at h4
  exact h4
theorem RvL.set5 {w0 wr : World} {B g cap N i : Nat} {F : Nat → Prop} {s1 s2 s3 : Dv} (h : RvL w0 wr B (.slice (some ⟨g, 0, none⟩) N cap) F N s1 s2) (hi : i < N) (x0 x1 x2 : Nat) (x3 x4 : Bool) (hx : WAt s3 i (x0, x1, x2, x3, x4)) (hl : s3.L.length = s2.L.length)
    (hs : ∀ j, j ≠ i → j < N → s3.L.getD j 0 = s2.L.getD j 0 ∧ s3.c (j : Int) = s2.c (j : Int) ∧ s3.f (j : Int) = s2.f (j : Int)) :
    RvL w0 (((((wr.setCell ⟨g, i * 5, none⟩ (.int .u64 (x0 : Nat))).setCell ⟨g, i * 5 + 1, none⟩ (.int .u64 (x1 : Nat))).setCell ⟨g, i * 5 + 2, none⟩ (.int .u64 (x2 : Nat))).setCell ⟨g, i * 5 + 3, none⟩ (.bool x3)).setCell ⟨g, i * 5 + 4, none⟩ (.bool x4)) B (.slice (some ⟨g, 0, none⟩) N cap) F N s1 s3 := by
  obtain ⟨W, hM, hl2, hW, hc⟩ := h
  have hgF := hM.f0 g rfl
  have q : ∀ (X : World), Chg F w0 X → ∀ o v, Chg F w0 (X.setCell ⟨g, o, none⟩ v) := fun X h o v => h.trans (Chg.setCell _ _ _ _ hgF) (fun j e => .inl e)
  exact ⟨_, hM.wset5 x0 x1 x2 x3 x4 hl2 hi, by rw [List.length_set]; exact hl2, hW.set hx hl (fun j hj hj2 => hs j hj (by omega)), q _ (q _ (q _ (q _ (q _ hc _ _) _ _) _ _) _ _) _ _⟩

set_option maxRecDepth 10000 in
set_option maxHeartbeats 4000000 in
theorem rEvict (B : Nat) (F : Nat → Prop) (s : Dv) (x : Int) (w : World) (h : RvAt w B F s) (hg : GoodD s) :
    Calls Try.prog 57 #[.pointer (some ⟨B, 0, none⟩), .int .i64 x] w fun e w' => e = .returned (.tuple #[]) ∧ RvAt w' B F (evictD s x) ∧ Chg F w w' := by
  have hS := rStep B F s w h hg
  have hAt := Lib.hid h
  have hse := Lib.hid (stepD_same s)
  have hl0 := hg.len0
  have hlen := hg.len
  obtain ⟨N, hN⟩ : ∃ N, s.L.length = N := ⟨_, rfl⟩
  rw [hN] at hl0 hlen
  obtain ⟨v0, W, hR, hW⟩ := h
  obtain ⟨⟨c0, c1, c2, c3⟩, fz⟩ := hR.cells
  have hWl : W.length = N := hW.1.trans hN
  obtain ⟨A, cap, rfl⟩ := hR.len
  rw [hWl] at c0
  clear c1 c2 c3 fz hR hW hg
  unfold evictD
  by_cases k1 : x < 0
  · rw [if_neg (by simp [hasD]; omega)]
    clear hS
    go_enter Try.func57, Try.ntmps57
    go_wp2_with fail
    refine bodyPost_ret (results_none rfl _ _ _) rfl ?_
    exact ⟨rfl, hAt.out, Chg.refl _ _⟩
  · obtain ⟨i, rfl⟩ := Int.eq_ofNat_of_zero_le (show 0 ≤ x by omega)
    by_cases k2 : i < N
    · rw [if_pos (by simp [hasD]; omega)]
      have k3 : (i : Int) < (N : Int) := by omega
      clear hWl
      cases hd : doneD s with
      | false =>
        rw [hd] at hS
        rw [if_neg (by simp)]
        go_enter Try.func57, Try.ntmps57
        go_wp2_with (go_at_call 84; refine hS.mono ?_; rintro e w2 ⟨rfl, h2, hc2⟩; clear hS)
        go_end0
        exact ⟨rfl, h2, hc2⟩
      | true =>
        rw [hd] at hS
        rw [if_pos rfl]
        simp only [Int.toNat_natCast]
        cases hc : s.c (i : Int) with
        | none =>
          go_enter Try.func57, Try.ntmps57
          go_wp2_with (go_at_call 84; refine hS.mono ?_; rintro e w2 ⟨rfl, h2, hc2⟩; clear hS
                       obtain ⟨g, cap2, hgF, hL⟩ := RvL.of (N := N) h2 (by rw [hse.out.1]; exact hN) (by omega) hc2
                       have hLd := hL.drew
                       obtain ⟨y, hat, hX⟩ := hL.x k2
                       obtain ⟨⟨d0, d1, d2, d3, d4⟩, fg, ⟨b0, _⟩, hBl, hgl, _⟩ := hX.word k2
                       obtain ⟨⟨a0, a1, a2, a3, a4⟩, fd, ⟨ab0, _⟩, _⟩ := hX.drew.word k2
                       obtain ⟨y0, y1, y2, y3, y4⟩ := y
                       obtain ⟨r1, r2, r3, r4, r5⟩ := hat
                       simp only [hse.out.1, hse.out.2.1, hse.out.2.2.1] at d0 d1 d2 d3 d4 a0 a1 a2 a3 a4 r1 r2 r3 r4 r5
                       rw [hc] at r2
                       simp only [Option.isSome_none, Option.isSome_some] at r2
                       subst r2
                       clear hLd
                       replace hL := Lib.hid hL
                       clear hX c0 d0 d1 d2 d4 r1 r3 r4 r5)
          go_end0
          exact ⟨rfl, h2, hc2⟩
        | some v =>
          go_enter Try.func57, Try.ntmps57
          go_wp2_with (go_at_call 84; refine hS.mono ?_; rintro e w2 ⟨rfl, h2, hc2⟩; clear hS
                       obtain ⟨g, cap2, hgF, hL⟩ := RvL.of (N := N) h2 (by rw [hse.out.1]; exact hN) (by omega) hc2
                       have hLd := hL.drew
                       obtain ⟨y, hat, hX⟩ := hL.x k2
                       obtain ⟨⟨d0, d1, d2, d3, d4⟩, fg, ⟨b0, _⟩, hBl, hgl, _⟩ := hX.word k2
                       obtain ⟨⟨a0, a1, a2, a3, a4⟩, fd, ⟨ab0, _⟩, _⟩ := hX.drew.word k2
                       obtain ⟨y0, y1, y2, y3, y4⟩ := y
                       obtain ⟨r1, r2, r3, r4, r5⟩ := hat
                       simp only [hse.out.1, hse.out.2.1, hse.out.2.2.1] at d0 d1 d2 d3 d4 a0 a1 a2 a3 a4 r1 r2 r3 r4 r5
                       rw [hc] at r2
                       simp only [Option.isSome_none, Option.isSome_some] at r2
                       subst r2
                       have r6 := r3 v hc
                       subst r6
                       have hL5 := Lib.hid (hLd.set5 (s3 := { stepD s with L := s.L.set i y1, c := delU s.c (i : Int), f := delU s.f (i : Int) }) k2 y1 0 0 false false ⟨(by simp only []; rw [List.getD_eq_getElem?_getD, List.getElem?_set, if_pos rfl, if_pos (by omega)]; rfl), (by simp [delU]), (fun z hz => by simp [delU] at hz), (by simp [delU]), (fun z hz => by simp [delU] at hz)⟩ (by simp only [List.length_set, hse.out.1]) (fun j hj _ => ⟨by simp only [hse.out.1]; exact getD_set_other hj, by simp only [delU, hse.out.2.1]; rw [if_neg (by omega)], by simp only [delU, hse.out.2.2.1]; rw [if_neg (by omega)]⟩))
                       have g0 := fd (i * 5)
                       have g1 := fd (i * 5 + 1)
                       have g2 := fd (i * 5 + 2)
                       have g3 := fd (i * 5 + 3)
                       have g4 := fd (i * 5 + 4)
                       have p0 := fg (i * 5)
                       have p1 := fg (i * 5 + 1)
                       have p2 := fg (i * 5 + 2)
                       have p3 := fg (i * 5 + 3)
                       have p4 := fg (i * 5 + 4)
                       clear fd fg hLd
                       replace hL := Lib.hid hL
                       clear hX c0 r1 r3 r4 r5)
          refine wp_region_tail (S := (fun w' => w' = w2.drew)) (n := 15) (by kernel_rfl) ?_ (fun hHeld hInv => ?_) (by decide)
          · (try dsimp only)
            all_goals rfl
          refine takeS 0 (v := ?_) (tailAt (by kernel_rfl)) hInv (by decide) rfl (by kernel_rfl) (by kernel_rfl) (by kernel_rfl) (fun _ _ _ h => h) (by rfl) (by assumption) ?_ (fun hInv2 => ?_)
          rotate_left
          · (intro w hSw; (try dsimp only at hSw); (subst hSw); go_simp <;> with_reducible rfl)
          clear hInv
          have hInv := hInv2
          clear hInv2
          try simp only [Act.put, List.setIfInBounds_toArray, List.set_cons_zero, List.set_cons_succ] at hInv ⊢
          refine takeS 1 (v := ?_) (tailAt (by kernel_rfl)) hInv (by decide) rfl (by kernel_rfl) (by kernel_rfl) (by kernel_rfl) (fun _ _ _ h => h) (by rfl) (by assumption) ?_ (fun hInv2 => ?_)
          rotate_left
          · (intro w hSw; (try dsimp only at hSw); (subst hSw); go_simp <;> with_reducible rfl)
          clear hInv
          have hInv := hInv2
          clear hInv2
          try simp only [Act.put, List.setIfInBounds_toArray, List.set_cons_zero, List.set_cons_succ] at hInv ⊢
          refine takeS 2 (v := ?_) (tailAt (by kernel_rfl)) hInv (by decide) rfl (by kernel_rfl) (by kernel_rfl) (by kernel_rfl) (fun _ _ _ h => h) (by rfl) (by assumption) ?_ (fun hInv2 => ?_)
          rotate_left
          · (intro w hSw; (try dsimp only at hSw); (subst hSw); go_simp <;> with_reducible rfl)
          clear hInv
          have hInv := hInv2
          clear hInv2
          try simp only [Act.put, List.setIfInBounds_toArray, List.set_cons_zero, List.set_cons_succ] at hInv ⊢
          refine takeS 3 (v := ?_) (tailAt (by kernel_rfl)) hInv (by decide) rfl (by kernel_rfl) (by kernel_rfl) (by kernel_rfl) (fun _ _ _ h => h) (by rfl) (by assumption) ?_ (fun hInv2 => ?_)
          rotate_left
          · (intro w hSw; (try dsimp only at hSw); (subst hSw); go_simp <;> with_reducible rfl)
          clear hInv
          have hInv := hInv2
          clear hInv2
          try simp only [Act.put, List.setIfInBounds_toArray, List.set_cons_zero, List.set_cons_succ] at hInv ⊢
          refine takeS 4 (v := ?_) (tailAt (by kernel_rfl)) hInv (by decide) rfl (by kernel_rfl) (by kernel_rfl) (by kernel_rfl) (fun _ _ _ h => h) (by rfl) (by assumption) ?_ (fun hInv2 => ?_)
          rotate_left
          · (intro w hSw; (try dsimp only at hSw); (subst hSw); go_simp <;> with_reducible rfl)
          clear hInv
          have hInv := hInv2
          clear hInv2
          try simp only [Act.put, List.setIfInBounds_toArray, List.set_cons_zero, List.set_cons_succ] at hInv ⊢
          refine takeS 5 (v := ?_) (tailAt (by kernel_rfl)) hInv (by decide) rfl (by kernel_rfl) (by kernel_rfl) (by kernel_rfl) (fun _ _ _ h => h) (by rfl) (by assumption) ?_ (fun hInv2 => ?_)
          rotate_left
          · (intro w hSw; (try dsimp only at hSw); (subst hSw); go_simp <;> with_reducible rfl)
          clear hInv
          have hInv := hInv2
          clear hInv2
          try simp only [Act.put, List.setIfInBounds_toArray, List.set_cons_zero, List.set_cons_succ] at hInv ⊢
          refine takeS 6 (v := ?_) (tailAt (by kernel_rfl)) hInv (by decide) rfl (by kernel_rfl) (by kernel_rfl) (by kernel_rfl) (fun _ _ _ h => h) (by rfl) (by assumption) ?_ (fun hInv2 => ?_)
          rotate_left
          · (intro w hSw; (try dsimp only at hSw); (subst hSw); go_simp <;> with_reducible rfl)
          clear hInv
          have hInv := hInv2
          clear hInv2
          try simp only [Act.put, List.setIfInBounds_toArray, List.set_cons_zero, List.set_cons_succ] at hInv ⊢
          refine takeS 7 (v := ?_) (tailAt (by kernel_rfl)) hInv (by decide) rfl (by kernel_rfl) (by kernel_rfl) (by kernel_rfl) (fun _ _ _ h => h) (by rfl) (by assumption) ?_ (fun hInv2 => ?_)
          rotate_left
          · (intro w hSw; (try dsimp only at hSw); (subst hSw); go_simp <;> with_reducible rfl)
          clear hInv
          have hInv := hInv2
          clear hInv2
          try simp only [Act.put, List.setIfInBounds_toArray, List.set_cons_zero, List.set_cons_succ] at hInv ⊢
          refine takeS 8 (v := ?_) (tailAt (by kernel_rfl)) hInv (by decide) rfl (by kernel_rfl) (by kernel_rfl) (by kernel_rfl) (fun _ _ _ h => h) (by rfl) (by assumption) ?_ (fun hInv2 => ?_)
          rotate_left
          · (intro w hSw; (try dsimp only at hSw); (subst hSw); go_simp <;> with_reducible rfl)
          clear hInv
          have hInv := hInv2
          clear hInv2
          try simp only [Act.put, List.setIfInBounds_toArray, List.set_cons_zero, List.set_cons_succ] at hInv ⊢
          refine takeS 9 (v := ?_) (tailAt (by kernel_rfl)) hInv (by decide) rfl (by kernel_rfl) (by kernel_rfl) (by kernel_rfl) (fun _ _ _ h => h) (by rfl) (by assumption) ?_ (fun hInv2 => ?_)
          rotate_left
          · (intro w hSw; (try dsimp only at hSw); (subst hSw); go_simp <;> with_reducible rfl)
          clear hInv
          have hInv := hInv2
          clear hInv2
          try simp only [Act.put, List.setIfInBounds_toArray, List.set_cons_zero, List.set_cons_succ] at hInv ⊢
          refine takeS 10 (v := ?_) (tailAt (by kernel_rfl)) hInv (by decide) rfl (by kernel_rfl) (by kernel_rfl) (by kernel_rfl) (fun _ _ _ h => h) (by rfl) (by assumption) ?_ (fun hInv2 => ?_)
          rotate_left
          · (intro w hSw; (try dsimp only at hSw); (subst hSw); go_simp <;> with_reducible rfl)
          clear hInv
          have hInv := hInv2
          clear hInv2
          try simp only [Act.put, List.setIfInBounds_toArray, List.set_cons_zero, List.set_cons_succ] at hInv ⊢
          refine takeS 11 (v := ?_) (tailAt (by kernel_rfl)) hInv (by decide) rfl (by kernel_rfl) (by kernel_rfl) (by kernel_rfl) (fun _ _ _ h => h) (by rfl) (by assumption) ?_ (fun hInv2 => ?_)
          rotate_left
          · (intro w hSw; (try dsimp only at hSw); (subst hSw); go_simp <;> with_reducible rfl)
          clear hInv
          have hInv := hInv2
          clear hInv2
          try simp only [Act.put, List.setIfInBounds_toArray, List.set_cons_zero, List.set_cons_succ] at hInv ⊢
          refine takeS 12 (v := ?_) (tailAt (by kernel_rfl)) hInv (by decide) rfl (by kernel_rfl) (by kernel_rfl) (by kernel_rfl) (fun _ _ _ h => h) (by rfl) (by assumption) ?_ (fun hInv2 => ?_)
          rotate_left
          · (intro w hSw; (try dsimp only at hSw); (subst hSw); go_simp <;> with_reducible rfl)
          clear hInv
          have hInv := hInv2
          clear hInv2
          try simp only [Act.put, List.setIfInBounds_toArray, List.set_cons_zero, List.set_cons_succ] at hInv ⊢
          refine takeS 13 (v := ?_) (tailAt (by kernel_rfl)) hInv (by decide) rfl (by kernel_rfl) (by kernel_rfl) (by kernel_rfl) (fun _ _ _ h => h) (by rfl) (by assumption) ?_ (fun hInv2 => ?_)
          rotate_left
          · (intro w hSw; (try dsimp only at hSw); (subst hSw); go_simp <;> with_reducible rfl)
          clear hInv
          have hInv := hInv2
          clear hInv2
          try simp only [Act.put, List.setIfInBounds_toArray, List.set_cons_zero, List.set_cons_succ] at hInv ⊢
          refine takeS 14 (v := ?_) (tailAt (by kernel_rfl)) hInv (by decide) rfl (by kernel_rfl) (by kernel_rfl) (by kernel_rfl) (fun _ _ _ h => h) (by rfl) (by assumption) ?_ (fun hInv2 => ?_)
          rotate_left
          · (intro w hSw; (try dsimp only at hSw); (subst hSw); go_simp <;> with_reducible rfl)
          clear hInv
          have hInv := hInv2
          clear hInv2
          try simp only [Act.put, List.setIfInBounds_toArray, List.set_cons_zero, List.set_cons_succ] at hInv ⊢
          refine lastS 15 rfl (by decide) (by kernel_rfl) (fun K hK => ?_)
          go_simp
          refine hK.out _ _ ?_
          clear hK K
          refine wpAnyS_done (by kernel_rfl) ?_ _
          go_wp2_with fail
          go_end0
          have hE := hL5.out.at rfl rfl rfl
          exact ⟨rfl, hE⟩
    · rw [if_neg (by simp [hasD]; omega)]
      have k3 : (N : Int) ≤ (i : Int) := by omega
      clear hS
      go_enter Try.func57, Try.ntmps57
      go_wp2_with fail
      refine bodyPost_ret (results_none rfl _ _ _) rfl ?_
      exact ⟨rfl, hAt.out, Chg.refl _ _⟩
end Go.Proofs.Ytcemiclbeocnjaa
