/-
  Layer 3 (pmem): the document's device: where it lies in memory, how it is the same as the code's; its step, Load, Store.
-/
import Derived.Test.YtcemiclbeocnjaaPm10
set_option linter.unusedVariables false
set_option linter.unusedSimpArgs false
namespace Go.Proofs.Ytcemiclbeocnjaa
open Go.RowKit Go.ChangeShapes Go.WideShapes Go.Deep Go.Maps

/-- a word: lasting, cached, sent; dirty, flushed -/
abbrev Wd := Nat × Nat × Nat × Bool × Bool
def wE (x : Wd) : List Value := [.int .u64 (x.1 : Nat), .int .u64 (x.2.1 : Nat), .int .u64 (x.2.2.1 : Nat), .bool x.2.2.2.1, .bool x.2.2.2.2]
theorem wE_len (x : Wd) : (wE x).length = 5 := rfl
/-- a word as the device has it -/
def WAt (s : Dv) (i : Nat) (x : Wd) : Prop := x.1 = s.L.getD i 0 ∧ x.2.2.2.1 = (s.c (i : Int)).isSome ∧ (∀ a, s.c (i : Int) = some a → x.2.1 = a) ∧ x.2.2.2.2 = (s.f (i : Int)).isSome ∧ (∀ a, s.f (i : Int) = some a → x.2.2.1 = a)
def WRel (s : Dv) (W : List Wd) : Prop := W.length = s.L.length ∧ ∀ i, i < W.length → WAt s i (W.getD i default)
theorem WRel.same {s s' : Dv} {W : List Wd} (h : WRel s W) (hl : s'.L.length = s.L.length) (hs : ∀ j, j < W.length → s'.L.getD j 0 = s.L.getD j 0 ∧ s'.c (j : Int) = s.c (j : Int) ∧ s'.f (j : Int) = s.f (j : Int)) : WRel s' W := by
  refine ⟨h.1.trans hl.symm, fun i hi => ?_⟩
  obtain ⟨a, b, c⟩ := hs i hi
  have := h.2 i hi
  unfold WAt at this ⊢
  rw [a, b, c]
  exact this
theorem WRel.set {s s' : Dv} {W : List Wd} {i : Nat} {x : Wd} (h : WRel s W) (hx : WAt s' i x) (hl : s'.L.length = s.L.length) (hs : ∀ j, j ≠ i → j < W.length → s'.L.getD j 0 = s.L.getD j 0 ∧ s'.c (j : Int) = s.c (j : Int) ∧ s'.f (j : Int) = s.f (j : Int)) : WRel s' (W.set i x) := by
  refine ⟨by rw [List.length_set]; exact h.1.trans hl.symm, fun j hj => ?_⟩
  rw [List.length_set] at hj
  rw [List.getD_eq_getElem?_getD, List.getElem?_set]
  by_cases e : i = j
  · subst e
    rw [if_pos rfl, if_pos hj]
    exact hx
  · rw [if_neg e, ← List.getD_eq_getElem?_getD]
    obtain ⟨a, b, c⟩ := hs j (fun q => e q.symm) hj
    have := h.2 j hj
    unfold WAt at this ⊢
    rw [a, b, c]
    exact this
/-- it lies in block B; F: the blocks that it may change -/
structure RvM (w : World) (B : Nat) (v0 : Value) (F : Nat → Prop) (s : Dv) (W : List Wd) : Prop where
  blk : w.heap[B]? = some (.cells #[v0, .int .i64 s.fuse, .bool s.dead, .int .i64 s.steps] 40 (0, 0))
  row : OwnE 96 5 wE w 0 v0 W
  fB : F B
  f0 : ∀ k, v0.ownBlock = some k → F k
  lt : ∀ k, F k → k < w.heap.size
def RvAt (w : World) (B : Nat) (F : Nat → Prop) (s : Dv) : Prop := ∃ v0 W, RvM w B v0 F s W ∧ WRel s W
theorem RvM.chg {S F : Nat → Prop} {w w' : World} {B : Nat} {v0 : Value} {s : Dv} {W : List Wd} (h : RvM w B v0 F s W) (hc : Chg S w w') (hn : ∀ k, F k → ¬ S k) : RvM w' B v0 F s W :=
  ⟨(hc.block B (h.lt _ h.fB) (hn _ h.fB)).trans h.blk, h.row.chg hc (fun k e => hn _ (h.f0 k e)), h.fB, h.f0, fun k e => Nat.lt_of_lt_of_le (h.lt k e) hc.size⟩
theorem RvM.keep {F : Nat → Prop} {w w' : World} {B : Nat} {v0 : Value} {s : Dv} {W : List Wd} (h : RvM w B v0 F s W) (hb : Below w.heap.size w w') : RvM w' B v0 F s W := h.chg (Chg.of_below (fun _ => False) hb) (fun _ _ q => q)
theorem RvAt.chg {S F : Nat → Prop} {w w' : World} {B : Nat} {s : Dv} (h : RvAt w B F s) (hc : Chg S w w') (hn : ∀ k, F k → ¬ S k) : RvAt w' B F s := by
  obtain ⟨v0, W, hM, hW⟩ := h
  exact ⟨v0, W, hM.chg hc hn, hW⟩
theorem RvAt.keep {F : Nat → Prop} {w w' : World} {B : Nat} {s : Dv} (h : RvAt w B F s) (hb : Below w.heap.size w w') : RvAt w' B F s := h.chg (Chg.of_below (fun _ => False) hb) (fun _ _ q => q)
theorem RvAt.lt {F : Nat → Prop} {w : World} {B : Nat} {s : Dv} (h : RvAt w B F s) : ∀ k, F k → k < w.heap.size := by
  obtain ⟨v0, W, hM, hW⟩ := h
  exact hM.lt
theorem RvAt.fB {F : Nat → Prop} {w : World} {B : Nat} {s : Dv} (h : RvAt w B F s) : F B := by
  obtain ⟨v0, W, hM, hW⟩ := h
  exact hM.fB
theorem RvM.cells {F : Nat → Prop} {w : World} {B : Nat} {v0 : Value} {s : Dv} {W : List Wd} (h : RvM w B v0 F s W) :
    (w.cell? ⟨B, 0, none⟩ = some v0 ∧ w.cell? ⟨B, 1, none⟩ = some (.int .i64 s.fuse) ∧ w.cell? ⟨B, 2, none⟩ = some (.bool s.dead) ∧ w.cell? ⟨B, 3, none⟩ = some (.int .i64 s.steps)) ∧ ∀ o, w.frozen? ⟨B, o, none⟩ = false := by
  refine ⟨⟨(cell_blk h.blk rfl).1, (cell_blk h.blk rfl).1, (cell_blk h.blk rfl).1, (cell_blk h.blk rfl).1⟩, fun o => ?_⟩
  simp [World.frozen?, h.blk]
theorem RvM.put {F : Nat → Prop} {w : World} {B o : Nat} {v0 u : Value} {s s' : Dv} {W : List Wd} (h : RvM w B v0 F s W) (hu : (#[v0, .int .i64 s.fuse, .bool s.dead, .int .i64 s.steps] : Array Value).setIfInBounds o u = #[v0, .int .i64 s'.fuse, .bool s'.dead, .int .i64 s'.steps]) : RvM (w.setCell ⟨B, o, none⟩ u) B v0 F s' W :=
  ⟨by rw [set_blk h.blk, hu], h.row.chg (Chg.setCell (S := fun k => k = B) w B o u rfl) (row_ne h.row h.blk (by decide)), h.fB, h.f0, fun k e => by rw [size_setCell]; exact h.lt k e⟩
theorem RvM.wset {F : Nat → Prop} {w : World} {B g cap N i j : Nat} {u : Value} {s : Dv} {W : List Wd} {x : Wd} (h : RvM w B (.slice (some ⟨g, 0, none⟩) N cap) F s W) (hN : W.length = N) (hi : i < N) (hj : j < 5) (he : wE x = (wE (W.getD i default)).set j u) :
    RvM (w.setCell ⟨g, i * 5 + j, none⟩ u) B (.slice (some ⟨g, 0, none⟩) N cap) F s (W.set i x) := by
  have hgB : B ≠ g := fun e => row_ne h.row h.blk (by decide) g rfl e.symm
  exact ⟨((Chg.setCell (S := fun k => k = g) w g (i * 5 + j) u rfl).block B (h.lt _ h.fB) hgB).trans h.blk, h.row.set wE_len hN hi hj he, h.fB, h.f0, fun k e => by rw [size_setCell]; exact h.lt k e⟩
theorem RvM.form {F : Nat → Prop} {w : World} {B : Nat} {v0 : Value} {s : Dv} {W : List Wd} (h : RvM w B v0 F s W) (h0 : 0 < W.length) : ∃ g cap, v0 = .slice (some ⟨g, 0, none⟩) W.length cap ∧ F g ∧ g < w.heap.size := by
  obtain ⟨g, cap, hv, _, hg, _⟩ := h.row.form h0
  exact ⟨g, cap, hv, h.f0 g (by rw [hv]; rfl), hg⟩
theorem RvM.len {F : Nat → Prop} {w : World} {B : Nat} {v0 : Value} {s : Dv} {W : List Wd} (h : RvM w B v0 F s W) : ∃ A cap, v0 = .slice A W.length cap := by
  obtain ⟨A, cap, hv, _⟩ := (h.row.el wE_len).form rfl
  exact ⟨A, cap, hv⟩

set_option maxHeartbeats 2000000 in
theorem rStep (B : Nat) (F : Nat → Prop) (s : Dv) (w : World) (h : RvAt w B F s) (hg : GoodD s) :
    Calls Try.prog 84 #[.pointer (some ⟨B, 0, none⟩)] w fun e w' => e = .returned (.bool (doneD s)) ∧ RvAt w' B F (stepD s) ∧ Chg F w w' := by
  obtain ⟨v0, W, hR, hW⟩ := h
  obtain ⟨⟨c0, c1, c2, c3⟩, fz⟩ := hR.cells
  have f1 := fz 1
  have f2 := fz 2
  have f3 := fz 3
  have hF := Lib.hid hR.fB
  have hst := hg.st
  have hst0 := hg.st0
  have hfu := hg.fu
  have hfu0 := hg.fu0
  have hcs : Hid (∀ (w' : World) (o : Nat) (v : Value), Chg F w w' → Chg F w (w'.setCell ⟨B, o, none⟩ v)) := fun w' o v hc => hc.trans (Chg.setCell w' B o v hF.out) (fun j q => .inl q)
  have hch := Lib.hid (Chg.refl F w)
  have hWs := Lib.hid (show WRel (stepD s) W from by
    obtain ⟨q1, q2, q3, _⟩ := stepD_same s
    exact hW.same (by rw [q1]) (fun j _ => ⟨by rw [q1], by rw [q2], by rw [q3]⟩))
  clear fz c0 hg hW
  obtain ⟨L, c, f, n, dead, fuse, steps⟩ := s
  simp only [doneD, stepD] at *
  cases dead with
  | true =>
    replace hR := Lib.hid hR
    go_enter Try.func84, Try.ntmps84
    go_wp2_with fail
    go_ret
    exact ⟨rfl, ⟨_, _, hR.out, hWs.out⟩, hch.out⟩
  | false =>
    by_cases k1 : fuse = 1
    · subst k1
      have hP := Lib.hid ((hR.put (o := 1) (u := .int .i64 0) (s' := ⟨L, c, f, n, false, 0, steps⟩) rfl).put (o := 2) (u := .bool true) (s' := ⟨L, c, f, n, true, 0, steps⟩) rfl)
      clear hR
      go_enter Try.func84, Try.ntmps84
      go_wp2_with fail
      go_ret
      exact ⟨rfl, ⟨_, _, hP.out, hWs.out⟩, hcs _ _ _ (hcs _ _ _ hch.out)⟩
    · simp only [if_neg k1, decide_eq_false k1] at *
      have kb : (fuse == 1) = false := by simpa using k1
      by_cases k2 : 1 < fuse
      · obtain ⟨d, hd⟩ : ∃ d, fuse - 1 = d := ⟨_, rfl⟩
        have hP := Lib.hid ((hR.put (o := 1) (u := .int .i64 d) (s' := ⟨L, c, f, n, false, d, steps⟩) rfl).put (o := 3) (u := .int .i64 (steps + 1)) (s' := ⟨L, c, f, n, false, d, steps + 1⟩) rfl)
        have hm : max d 0 = d := by omega
        rw [hd, hm] at hWs ⊢
        replace hm := Lib.hid hm
        clear hR k1
        go_enter Try.func84, Try.ntmps84
        go_wp2_with fail
        go_ret
        exact ⟨rfl, ⟨_, _, hP.out, hWs.out⟩, hcs _ _ _ (hcs _ _ _ hch.out)⟩
      · obtain rfl : fuse = 0 := by omega
        have hP := Lib.hid (hR.put (o := 3) (u := .int .i64 (steps + 1)) (s' := ⟨L, c, f, n, false, 0, steps + 1⟩) rfl)
        have hm : max ((0 : Int) - 1) 0 = 0 := by omega
        rw [hm] at hWs ⊢
        clear hR k1
        go_enter Try.func84, Try.ntmps84
        go_wp2_with fail
        go_ret
        exact ⟨rfl, ⟨_, _, hP.out, hWs.out⟩, hcs _ _ _ hch.out⟩

set_option maxRecDepth 10000 in
set_option maxHeartbeats 2000000 in
theorem rLoad (B : Nat) (F : Nat → Prop) (s : Dv) (x : Int) (w : World) (h : RvAt w B F s) (hg : GoodD s) :
    Calls Try.prog 23 #[.pointer (some ⟨B, 0, none⟩), .int .i64 x] w fun e w' => e = .returned (.int .u64 (loadD s x : Nat)) ∧ w' = w := by
  obtain ⟨v0, W, hR, hW⟩ := h
  obtain ⟨⟨c0, c1, c2, c3⟩, fz⟩ := hR.cells
  have hlen := hg.len
  have hWl := hW.1
  clear c1 c2 c3 fz
  unfold loadD
  by_cases k1 : x < 0
  · rw [if_neg (by simp [hasD]; omega)]
    clear hR hW hg
    go_enter Try.func23, Try.ntmps23
    go_wp2_with fail
    go_ret
    exact ⟨rfl, rfl⟩
  · obtain ⟨i, rfl⟩ := Int.eq_ofNat_of_zero_le (show 0 ≤ x by omega)
    by_cases k2 : i < W.length
    · rw [if_pos (by simp [hasD]; omega)]
      obtain ⟨g, cap, rfl, hgF, hgl⟩ := hR.form (by omega)
      have hat := hW.2 i k2
      have d0 := (hR.row.cell wE_len rfl k2 (j := 0) (by decide)).1
      have d1 := (hR.row.cell wE_len rfl k2 (j := 1) (by decide)).1
      have d3 := (hR.row.cell wE_len rfl k2 (j := 3) (by decide)).1
      generalize W.length = N at *
      generalize W.getD i default = y at *
      obtain ⟨y0, y1, y2, y3, y4⟩ := y
      obtain ⟨e1, e2, e3, e4, e5⟩ := hat
      simp only [] at e1 e2 e3 e4 e5
      replace d0 : w.cell? ⟨g, i * 5, none⟩ = some (.int .u64 (y0 : Nat)) := d0
      replace d1 : w.cell? ⟨g, i * 5 + 1, none⟩ = some (.int .u64 (y1 : Nat)) := d1
      replace d3 : w.cell? ⟨g, i * 5 + 3, none⟩ = some (.bool y3) := d3
      have k3 : (i : Int) < (N : Int) := by omega
      have hN : N ≤ 1000 := by omega
      rw [Int.toNat_natCast, ← e1]
      cases hc : s.c (i : Int) with
      | none =>
        rw [hc] at e2
        simp only [Option.isSome_none] at e2
        subst e2
        clear hR hW hg hc e3 e5 e4 hgl e1
        go_enter Try.func23, Try.ntmps23
        go_wp2_with fail
        go_ret
        exact ⟨rfl, rfl⟩
      | some z =>
        rw [hc] at e2
        simp only [Option.isSome_some] at e2
        subst e2
        have e6 := e3 z hc
        subst e6
        clear hR hW hg hc e3 e5 e4 hgl e1
        go_enter Try.func23, Try.ntmps23
        go_wp2_with fail
        go_ret
        exact ⟨rfl, rfl⟩
    · rw [if_neg (by simp [hasD]; omega)]
      obtain ⟨A, cap, rfl⟩ := hR.len
      generalize W.length = N at *
      have k3 : (N : Int) ≤ (i : Int) := by omega
      clear hR hW hg
      go_enter Try.func23, Try.ntmps23
      go_wp2_with fail
      go_ret
      exact ⟨rfl, rfl⟩
end Go.Proofs.Ytcemiclbeocnjaa
