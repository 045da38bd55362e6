/-
  Layer 3 (pmem): the document's Fence.
-/
import Derived.Test.YtcemiclbeocnjaaPm15
set_option linter.unusedVariables false
set_option linter.unusedSimpArgs false
namespace Go.Proofs.Ytcemiclbeocnjaa
open Go.RowKit Go.ChangeShapes Go.WideShapes Go.Deep Go.Maps

/-- as 'RvL', with the word that lies at i -/
def RvX (w0 wr : World) (B : Nat) (v0 : Value) (F : Nat → Prop) (N : Nat) (s1 s2 : Dv) (i : Nat) (y : Wd) : Prop := ∃ W, RvM wr B v0 F s1 W ∧ W.length = N ∧ WRel s2 W ∧ W.getD i default = y ∧ Chg F w0 wr
theorem RvL.x {w0 wr : World} {B : Nat} {v0 : Value} {F : Nat → Prop} {N : Nat} {s1 s2 : Dv} (h : RvL w0 wr B v0 F N s1 s2) {i : Nat} (hi : i < N) : ∃ y, WAt s2 i y ∧ RvX w0 wr B v0 F N s1 s2 i y := by
  obtain ⟨W, hM, hl, hW, hc⟩ := h
  exact ⟨_, hW.2 i (by omega), W, hM, hl, hW, rfl, hc⟩
theorem RvX.l {w0 wr : World} {B : Nat} {v0 : Value} {F : Nat → Prop} {N : Nat} {s1 s2 : Dv} {i : Nat} {y : Wd} (h : RvX w0 wr B v0 F N s1 s2 i y) : RvL w0 wr B v0 F N s1 s2 := by
  obtain ⟨W, hM, hl, hW, _, hc⟩ := h
  exact ⟨W, hM, hl, hW, hc⟩
theorem RvX.drew {w0 wr : World} {B : Nat} {v0 : Value} {F : Nat → Prop} {N : Nat} {s1 s2 : Dv} {i : Nat} {y : Wd} (h : RvX w0 wr B v0 F N s1 s2 i y) : RvX w0 wr.drew B v0 F N s1 s2 i y := by
  obtain ⟨W, hM, hl, hW, hy, hc⟩ := h
  exact ⟨W, hM.keep (Below.refl _ _).drew, hl, hW, hy, hc.trans (chg_drew F wr) (fun j q => .inl q)⟩
theorem RvX.word {w0 wr : World} {B g cap N : Nat} {F : Nat → Prop} {s1 s2 : Dv} {i : Nat} {y : Wd} (h : RvX w0 wr B (.slice (some ⟨g, 0, none⟩) N cap) F N s1 s2 i y) (hi : i < N) :
    (wr.cell? ⟨g, i * 5, none⟩ = some (.int .u64 (y.1 : Nat)) ∧ wr.cell? ⟨g, i * 5 + 1, none⟩ = some (.int .u64 (y.2.1 : Nat)) ∧ wr.cell? ⟨g, i * 5 + 2, none⟩ = some (.int .u64 (y.2.2.1 : Nat)) ∧ wr.cell? ⟨g, i * 5 + 3, none⟩ = some (.bool y.2.2.2.1) ∧ wr.cell? ⟨g, i * 5 + 4, none⟩ = some (.bool y.2.2.2.2)) ∧
    (∀ o, wr.frozen? ⟨g, o, none⟩ = false) ∧ (wr.cell? ⟨B, 0, none⟩ = some (.slice (some ⟨g, 0, none⟩) N cap) ∧ wr.cell? ⟨B, 1, none⟩ = some (.int .i64 s1.fuse) ∧ wr.cell? ⟨B, 2, none⟩ = some (.bool s1.dead) ∧ ∀ o, wr.frozen? ⟨B, o, none⟩ = false) ∧ B < wr.heap.size ∧ g < wr.heap.size ∧
    (∀ (j : Nat) (u : Value) (x : Wd), j < 5 → wE x = (wE y).set j u → ∀ s3 : Dv, WAt s3 i x → s3.L.length = s2.L.length → (∀ j, j ≠ i → j < N → s3.L.getD j 0 = s2.L.getD j 0 ∧ s3.c (j : Int) = s2.c (j : Int) ∧ s3.f (j : Int) = s2.f (j : Int)) → RvX w0 (wr.setCell ⟨g, i * 5 + j, none⟩ u) B (.slice (some ⟨g, 0, none⟩) N cap) F N s1 s3 i x) := by
  obtain ⟨W, hM, hl, hW, rfl, hc⟩ := h
  have hr := hM.row
  unfold OwnE at hr
  rw [hl] at hr
  refine ⟨⟨?_, ?_, ?_, ?_, ?_⟩, fun o => hr.frozenAt o, ⟨hM.cells.1.1, hM.cells.1.2.1, hM.cells.1.2.2.1, hM.cells.2⟩, hM.lt _ hM.fB, hM.lt _ (hM.f0 g rfl), fun j u x hj he s3 hx hls hs => ?_⟩
  · exact (hM.row.cell wE_len hl hi (j := 0) (by decide)).1
  · exact (hM.row.cell wE_len hl hi (j := 1) (by decide)).1
  · exact (hM.row.cell wE_len hl hi (j := 2) (by decide)).1
  · exact (hM.row.cell wE_len hl hi (j := 3) (by decide)).1
  · exact (hM.row.cell wE_len hl hi (j := 4) (by decide)).1
  · exact ⟨_, hM.wset hl hi hj he, by rw [List.length_set]; exact hl, hW.set hx hls (fun j hj hj2 => hs j hj (by omega)), getD_set_same (by omega), hc.trans (Chg.setCell wr g (i * 5 + j) u (hM.f0 g rfl)) (fun j q => .inl q)⟩
theorem keysL_succ (k : Nat) (g : Gu) : keysL (k + 1) g = keysL k g ++ (if (g (k : Int)).isSome then [(k : Int)] else []) := by
  unfold keysL
  rw [List.range_succ, List.map_append, List.filter_append]
  congr 1
  simp only [List.map_cons, List.map_nil, Int.ofNat_eq_natCast, List.filter_cons, List.filter_nil]
theorem keysL_lt {k : Nat} {g : Gu} {x : Int} (h : x ∈ keysL k g) : 0 ≤ x ∧ x < k ∧ (g x).isSome := by
  unfold keysL at h
  rw [List.mem_filter, List.mem_map] at h
  obtain ⟨⟨i, hi, rfl⟩, h2⟩ := h
  rw [List.mem_range] at hi
  simp only [Int.ofNat_eq_natCast] at h2 ⊢
  exact ⟨by omega, by omega, h2⟩
theorem fen_c_far : ∀ (K : List Int) (s : Dv) (x : Int), (∀ y ∈ K, y ≠ x) → (K.foldl fenOne s).c x = s.c x
  | [], s, x, h => rfl
  | y :: K, s, x, h => by
    rw [List.foldl_cons, fen_c_far K _ x (fun z hz => h z (by simp [hz]))]
    simp only [fenOne]
    split
    · simp only [delU]
      rw [if_neg (fun e => h y (by simp) e.symm)]
    · rfl
/-- the words below k are fenced -/
def fk (s : Dv) (k : Nat) : Dv := { (keysL k s.f).foldl fenOne (stepD s) with f := fun x => if x < k then none else s.f x }
theorem fk_L (s : Dv) (k : Nat) : (fk s k).L.length = s.L.length := by
  unfold fk
  simp only []
  rw [(fen_same _ _).2.2, (stepD_same s).1]
theorem fk_c (s : Dv) (k : Nat) {x : Int} (h : (k : Int) ≤ x) : (fk s k).c x = s.c x := by
  unfold fk
  simp only []
  rw [fen_c_far _ _ _ (fun y hy e => by have := keysL_lt hy; omega), (stepD_same s).2.1]
theorem fk_none {s : Dv} {k : Nat} (h : s.f (k : Int) = none) : fk s (k + 1) = fk s k := by
  unfold fk
  rw [keysL_succ, h]
  simp only [Option.isSome_none, Bool.false_eq_true, if_false, List.append_nil]
  congr 1
  funext x
  by_cases e : x = (k : Int)
  · subst e; rw [if_pos (by omega), if_neg (by omega), h]
  · by_cases e2 : x < (k : Int)
    · rw [if_pos (by omega), if_pos e2]
    · rw [if_neg (by omega), if_neg e2]
theorem fk_some {s : Dv} {k b a : Nat} (h : s.f (k : Int) = some b) (hc : s.c (k : Int) = some a) : fk s (k + 1) = { fk s k with L := (fk s k).L.set k b, c := if a = b then delU (fk s k).c (k : Int) else (fk s k).c, f := fun x => if x < ((k + 1 : Nat) : Int) then none else s.f x } := by
  have hcc : ((keysL k s.f).foldl fenOne (stepD s)).c (k : Int) = some a := by
    rw [fen_c_far _ _ _ (fun y hy e => by have := keysL_lt hy; omega), (stepD_same s).2.1, hc]
  have hff : ((keysL k s.f).foldl fenOne (stepD s)).f (k : Int) = some b := by
    rw [(fen_same _ _).1, (stepD_same s).2.2.1, h]
  unfold fk
  rw [keysL_succ, h]
  simp only [Option.isSome_some, if_true, List.foldl_append, List.foldl_cons, List.foldl_nil]
  simp only [fenOne, hcc, hff, Option.getD_some, Int.toNat_natCast]
theorem fk_end {s : Dv} {N : Nat} (hN : s.L.length = N) (h : ∀ x a, s.f x = some a → 0 ≤ x ∧ x < N) : fk s N = { (keysL s.L.length s.f).foldl fenOne (stepD s) with f := fun _ => none } := by
  have hf : (fun x : Int => if x < (N : Int) then none else s.f x) = fun _ => none := by
    funext x
    split
    · rfl
    · rename_i h1
      cases hq : s.f x with
      | none => rfl
      | some a => have := h x a hq; omega
  unfold fk
  rw [hN]
  simp only [hf]

set_option maxRecDepth 10000 in
set_option maxHeartbeats 4000000 in
theorem rFence (B : Nat) (F : Nat → Prop) (s : Dv) (w : World) (h : RvAt w B F s) (hg : GoodD s) :
    Calls Try.prog 56 #[.pointer (some ⟨B, 0, none⟩)] w fun e w' => e = .returned (.tuple #[]) ∧ RvAt w' B F (fenceD s) ∧ Chg F w w' := by
  have hS := rStep B F s w h hg
  have hse := Lib.hid (stepD_same s)
  have hl0 := hg.len0
  have hlen := hg.len
  have hfin := Lib.hid hg.fin
  have hcin := Lib.hid hg.cin
  obtain ⟨N, hN⟩ : ∃ N, s.L.length = N := ⟨_, rfl⟩
  rw [hN] at hl0 hlen
  unfold fenceD
  cases hd : doneD s with
  | false =>
    rw [hd] at hS
    rw [if_neg (by simp)]
    clear h hg
    go_enter Try.func56, Try.ntmps56
    go_wp2_with (go_at_call 84; refine hS.mono ?_; rintro e w2 ⟨rfl, h2, hc2⟩; clear hS
                 obtain ⟨g, cap, hgF, hL⟩ := RvL.of (N := N) h2 (by rw [hse.out.1]; exact hN) (by omega) hc2
                 obtain ⟨y, _, _, _, ⟨c0, _⟩, _⟩ := hL.word (i := 0) (by omega)
                 have h0N : (0 : Int) < (N : Int) := by omega)
    go_loopw [3] (fun i wr => i = .int .i64 0 ∧ wr = w2) (fun i _ => 0)
    case atStart => exact ⟨rfl, rfl⟩
    case round =>
      obtain ⟨rfl, rfl⟩ := hrel
      go_wp2_with fail
      go_end0
      exact ⟨rfl, h2, hc2⟩
  | true =>
    rw [hd] at hS
    rw [if_pos rfl, ← fk_end hN (fun x a q => by
      obtain ⟨b, hb⟩ := hg.fin x a q
      have := hg.cin x b hb
      omega)]
    clear h hg
    go_enter Try.func56, Try.ntmps56
    go_wp2_with (go_at_call 84; refine hS.mono ?_; rintro e w2 ⟨rfl, h2, hc2⟩; clear hS)
    obtain ⟨g, cap, hgF, hL⟩ := RvL.of (N := N) h2 (by rw [hse.out.1]; exact hN) (by omega) hc2
    have hL0 := Lib.hid (hL.same (s3 := fk s 0) (by rw [fk_L, hse.out.1]) (fun j _ => ⟨by rfl, by rfl, by simp only [fk]; rw [if_neg (by omega), hse.out.2.2.1]⟩))
    clear h2 hc2 hL
    go_loopw [3] (fun i wr => ∃ k : Nat, k ≤ N ∧ i = .int .i64 k ∧ Hid (RvL w wr B (.slice (some ⟨g, 0, none⟩) N cap) F N (stepD s) (fk s k))) (fun i _ => N + 1 - (intOf i).toNat)
    case atStart => exact ⟨0, Nat.zero_le _, rfl, hL0⟩
    case round =>
      clear hL0
      obtain ⟨k, hk, rfl, hLh⟩ := hrel
      by_cases hlt : k < N
      · obtain ⟨y, hat, hX⟩ := hLh.out.x hlt
        obtain ⟨⟨d0, d1, d2, d3, d4⟩, fg, ⟨c0, _⟩, hBl, hgl, hset⟩ := hX.word hlt
        have hlt' : (k : Int) < (N : Int) := by omega
        obtain ⟨y0, y1, y2, y3, y4⟩ := y
        obtain ⟨r1, r2, r3, r4, r5⟩ := hat
        simp only [] at d0 d1 d2 d3 d4 r1 r2 r3 r4 r5
        have hff : (fk s k).f (k : Int) = s.f (k : Int) := by unfold fk; simp only []; rw [if_neg (by omega)]
        rw [fk_c s k (Int.le_refl _)] at r2 r3
        rw [hff] at r4 r5
        cases hfx : s.f (k : Int) with
        | none =>
          rw [hfx] at r4
          simp only [Option.isSome_none] at r4
          subst r4
          have hfl := Lib.hid (fk_none hfx)
          clear hset d0 d1 d2 d3 fg r1 r2 r3 r5 hX hff hfx
          go_wp2_with fail
          go_roundw
          case rel => exact ⟨k + 1, by omega, by go_num, by rw [hfl.out]; exact hLh⟩
          case measure => simp [intOf]; omega
        | some b =>
          obtain ⟨a, hca⟩ := hfin.out _ _ hfx
          have hfl := fk_some hfx hca
          rw [hfx] at r4
          rw [hca] at r2
          simp only [Option.isSome_some] at r2 r4
          have r6 := r5 b hfx
          have r7 := r3 a hca
          subst r2
          subst r4
          subst r6
          subst r7
          have hLl : k < (fk s k).L.length := by rw [fk_L, hN]; exact hlt
          have hck := fk_c s k (Int.le_refl (k : Int))
          rw [hca] at hck
          have oth : ∀ j : Nat, j ≠ k → (fun x : Int => if x < ((k + 1 : Nat) : Int) then none else s.f x) (j : Int) = (fk s k).f (j : Int) := fun j hj => by
            unfold fk
            simp only []
            by_cases e : j < k
            · rw [if_pos (by omega), if_pos (by omega)]
            · rw [if_neg (by omega), if_neg (by omega)]
          -- the first store
          have hX0 := hX.drew
          obtain ⟨⟨a0, a1, a2, a3, a4⟩, fa, ⟨ac0, _⟩, _, _, hset0⟩ := hX0.word hlt
          simp only [] at a0 a1 a2 a3 a4
          have hX1 := hset0 0 (.int .u64 (y2 : Nat)) (y2, y1, y2, true, true) (by decide) rfl { fk s k with L := (fk s k).L.set k y2 } ⟨(by simp only []; rw [List.getD_eq_getElem?_getD, List.getElem?_set, if_pos rfl, if_pos hLl]; rfl), (by simp only []; rw [hck]; rfl), (fun z hz => by simp only [] at hz; rw [hck] at hz; cases hz; rfl), (by simp only []; rw [hff, hfx]; rfl), (fun z hz => by simp only [] at hz; rw [hff, hfx] at hz; cases hz; rfl)⟩ (by simp only [List.length_set]) (fun j hj _ => ⟨getD_set_other hj, rfl, rfl⟩)
          rw [Nat.add_zero] at hX1
          obtain ⟨W1, hW1⟩ : ∃ W1, W1 = wr.drew.setCell ⟨g, k * 5, none⟩ (.int .u64 (y2 : Nat)) := ⟨_, rfl⟩
          rw [← hW1] at hX1
          have hWW : (wr.setCell ⟨g, k * 5, none⟩ (.int .u64 (y2 : Nat))).drew = W1 := by rw [hW1]; rfl
          replace hW1 := Lib.hid hW1
          obtain ⟨⟨b0, b1, b2, b3, b4⟩, fb, ⟨bc0, _⟩, _, _, hset1⟩ := hX1.word hlt
          simp only [] at b0 b1 b2 b3 b4
          -- the second one
          have hX2 := (hset1 4 (.bool false) (y2, y1, y2, true, false) (by decide) rfl { fk s k with L := (fk s k).L.set k y2, f := fun x => if x < ((k + 1 : Nat) : Int) then none else s.f x } ⟨(by simp only []; rw [List.getD_eq_getElem?_getD, List.getElem?_set, if_pos rfl, if_pos hLl]; rfl), (by simp only []; rw [hck]; rfl), (fun z hz => by simp only [] at hz; rw [hck] at hz; cases hz; rfl), (by simp only []; rw [if_pos (by omega)]; rfl), (fun z hz => by simp only [] at hz; rw [if_pos (by omega)] at hz; cases hz)⟩ rfl (fun j hj _ => ⟨rfl, rfl, oth j hj⟩)).drew
          obtain ⟨⟨e0, e1, e2, e3, e4⟩, fe, ⟨ec0, _⟩, _, _, hset2⟩ := hX2.word hlt
          simp only [] at e0 e1 e2 e3 e4
          -- the third one
          have hX3 := hset2 3 (.bool (!decide (y1 = y2))) (y2, y1, y2, !decide (y1 = y2), false) (by decide) rfl (fk s (k + 1)) (by
            rw [hfl]
            refine ⟨?_, ?_, fun z hz => ?_, ?_, fun z hz => ?_⟩
            · simp only []; rw [List.getD_eq_getElem?_getD, List.getElem?_set, if_pos rfl, if_pos hLl]; rfl
            · simp only []
              by_cases e : y1 = y2
              · rw [if_pos e]; simp [delU, e]
              · rw [if_neg e, hck]; simp [e]
            · simp only [] at hz ⊢
              by_cases e : y1 = y2
              · rw [if_pos e] at hz; simp [delU] at hz
              · rw [if_neg e, hck] at hz; cases hz; rfl
            · simp only []; rw [if_pos (by omega)]; rfl
            · simp only [] at hz; rw [if_pos (by omega)] at hz; cases hz) (by rw [hfl]) (fun j hj _ => by
            rw [hfl]
            refine ⟨rfl, ?_, rfl⟩
            simp only []
            split
            · simp only [delU]; rw [if_neg (by omega)]
            · rfl)
          have hLf := Lib.hid hX3.l
          have g0 := fa (k * 5 + 0)
          have g4 := fb (k * 5 + 4)
          have g3 := fe (k * 5 + 3)
          rw [Nat.add_zero] at g0
          clear hset hset0 hset1 hset2 hX0 hX1 hX2 hX3 hX d0 d1 d2 d3 fg fa fb fe r1 r3 r5 hff hfx hck oth hfl hca
          have hne : ((y1 : Int) != (y2 : Int)) = (!decide (y1 = y2)) := by
            by_cases e : y1 = y2
            · subst e; simp
            · have : ¬ (y1 : Int) = (y2 : Int) := by omega
              simp [e]
              try omega
          generalize (!decide (y1 = y2)) = dd at *
          go_wp2_with fail
          refine wp_region_tail (S := (fun w' => w' = wr.drew)) (n := 15) (by kernel_rfl) ?_ (fun hHeld hInv => ?_) (by decide)
          · (try dsimp only)
            all_goals rfl
          refine takeS 0 (v := ?_) (tailAt (by kernel_rfl)) hInv (by decide) rfl (by kernel_rfl) (by kernel_rfl) (by kernel_rfl) (fun _ _ _ h => h) (by rfl) (by assumption) ?_ (fun hInv2 => ?_)
          rotate_left
          · (intro w hSw; (try dsimp only at hSw); (subst hSw); go_simp <;> with_reducible rfl)
          clear hInv
          have hInv := hInv2
          clear hInv2
          try simp only [Act.put, List.setIfInBounds_toArray, List.set_cons_zero, List.set_cons_succ] at hInv ⊢
          refine takeS 1 (v := ?_) (tailAt (by kernel_rfl)) hInv (by decide) rfl (by kernel_rfl) (by kernel_rfl) (by kernel_rfl) (fun _ _ _ h => h) (by rfl) (by assumption) ?_ (fun hInv2 => ?_)
          rotate_left
          · (intro w hSw; (try dsimp only at hSw); (subst hSw); go_simp <;> with_reducible rfl)
          clear hInv
          have hInv := hInv2
          clear hInv2
          try simp only [Act.put, List.setIfInBounds_toArray, List.set_cons_zero, List.set_cons_succ] at hInv ⊢
          refine takeS 2 (v := ?_) (tailAt (by kernel_rfl)) hInv (by decide) rfl (by kernel_rfl) (by kernel_rfl) (by kernel_rfl) (fun _ _ _ h => h) (by rfl) (by assumption) ?_ (fun hInv2 => ?_)
          rotate_left
          · (intro w hSw; (try dsimp only at hSw); (subst hSw); go_simp <;> with_reducible rfl)
          clear hInv
          have hInv := hInv2
          clear hInv2
          try simp only [Act.put, List.setIfInBounds_toArray, List.set_cons_zero, List.set_cons_succ] at hInv ⊢
          refine takeS 3 (v := ?_) (tailAt (by kernel_rfl)) hInv (by decide) rfl (by kernel_rfl) (by kernel_rfl) (by kernel_rfl) (fun _ _ _ h => h) (by rfl) (by assumption) ?_ (fun hInv2 => ?_)
          rotate_left
          · (intro w hSw; (try dsimp only at hSw); (subst hSw); go_simp <;> with_reducible rfl)
          clear hInv
          have hInv := hInv2
          clear hInv2
          try simp only [Act.put, List.setIfInBounds_toArray, List.set_cons_zero, List.set_cons_succ] at hInv ⊢
          refine takeS 4 (v := ?_) (tailAt (by kernel_rfl)) hInv (by decide) rfl (by kernel_rfl) (by kernel_rfl) (by kernel_rfl) (fun _ _ _ h => h) (by rfl) (by assumption) ?_ (fun hInv2 => ?_)
          rotate_left
          · (intro w hSw; (try dsimp only at hSw); (subst hSw); go_simp <;> with_reducible rfl)
          clear hInv
          have hInv := hInv2
          clear hInv2
          try simp only [Act.put, List.setIfInBounds_toArray, List.set_cons_zero, List.set_cons_succ] at hInv ⊢
          refine takeS 5 (v := ?_) (tailAt (by kernel_rfl)) hInv (by decide) rfl (by kernel_rfl) (by kernel_rfl) (by kernel_rfl) (fun _ _ _ h => h) (by rfl) (by assumption) ?_ (fun hInv2 => ?_)
          rotate_left
          · (intro w hSw; (try dsimp only at hSw); (subst hSw); go_simp <;> with_reducible rfl)
          clear hInv
          have hInv := hInv2
          clear hInv2
          try simp only [Act.put, List.setIfInBounds_toArray, List.set_cons_zero, List.set_cons_succ] at hInv ⊢
          refine takeS 6 (v := ?_) (tailAt (by kernel_rfl)) hInv (by decide) rfl (by kernel_rfl) (by kernel_rfl) (by kernel_rfl) (fun _ _ _ h => h) (by rfl) (by assumption) ?_ (fun hInv2 => ?_)
          rotate_left
          · (intro w hSw; (try dsimp only at hSw); (subst hSw); go_simp <;> with_reducible rfl)
          clear hInv
          have hInv := hInv2
          clear hInv2
          try simp only [Act.put, List.setIfInBounds_toArray, List.set_cons_zero, List.set_cons_succ] at hInv ⊢
          refine takeS 7 (v := ?_) (tailAt (by kernel_rfl)) hInv (by decide) rfl (by kernel_rfl) (by kernel_rfl) (by kernel_rfl) (fun _ _ _ h => h) (by rfl) (by assumption) ?_ (fun hInv2 => ?_)
          rotate_left
          · (intro w hSw; (try dsimp only at hSw); (subst hSw); go_simp <;> with_reducible rfl)
          clear hInv
          have hInv := hInv2
          clear hInv2
          try simp only [Act.put, List.setIfInBounds_toArray, List.set_cons_zero, List.set_cons_succ] at hInv ⊢
          refine takeS 8 (v := ?_) (tailAt (by kernel_rfl)) hInv (by decide) rfl (by kernel_rfl) (by kernel_rfl) (by kernel_rfl) (fun _ _ _ h => h) (by rfl) (by assumption) ?_ (fun hInv2 => ?_)
          rotate_left
          · (intro w hSw; (try dsimp only at hSw); (subst hSw); go_simp <;> with_reducible rfl)
          clear hInv
          have hInv := hInv2
          clear hInv2
          try simp only [Act.put, List.setIfInBounds_toArray, List.set_cons_zero, List.set_cons_succ] at hInv ⊢
          refine takeS 9 (v := ?_) (tailAt (by kernel_rfl)) hInv (by decide) rfl (by kernel_rfl) (by kernel_rfl) (by kernel_rfl) (fun _ _ _ h => h) (by rfl) (by assumption) ?_ (fun hInv2 => ?_)
          rotate_left
          · (intro w hSw; (try dsimp only at hSw); (subst hSw); go_simp <;> with_reducible rfl)
          clear hInv
          have hInv := hInv2
          clear hInv2
          try simp only [Act.put, List.setIfInBounds_toArray, List.set_cons_zero, List.set_cons_succ] at hInv ⊢
          refine takeS 10 (v := ?_) (tailAt (by kernel_rfl)) hInv (by decide) rfl (by kernel_rfl) (by kernel_rfl) (by kernel_rfl) (fun _ _ _ h => h) (by rfl) (by assumption) ?_ (fun hInv2 => ?_)
          rotate_left
          · (intro w hSw; (try dsimp only at hSw); (subst hSw); go_simp <;> with_reducible rfl)
          clear hInv
          have hInv := hInv2
          clear hInv2
          try simp only [Act.put, List.setIfInBounds_toArray, List.set_cons_zero, List.set_cons_succ] at hInv ⊢
          refine takeS 11 (v := ?_) (tailAt (by kernel_rfl)) hInv (by decide) rfl (by kernel_rfl) (by kernel_rfl) (by kernel_rfl) (fun _ _ _ h => h) (by rfl) (by assumption) ?_ (fun hInv2 => ?_)
          rotate_left
          · (intro w hSw; (try dsimp only at hSw); (subst hSw); go_simp <;> with_reducible rfl)
          clear hInv
          have hInv := hInv2
          clear hInv2
          try simp only [Act.put, List.setIfInBounds_toArray, List.set_cons_zero, List.set_cons_succ] at hInv ⊢
          refine takeS 12 (v := ?_) (tailAt (by kernel_rfl)) hInv (by decide) rfl (by kernel_rfl) (by kernel_rfl) (by kernel_rfl) (fun _ _ _ h => h) (by rfl) (by assumption) ?_ (fun hInv2 => ?_)
          rotate_left
          · (intro w hSw; (try dsimp only at hSw); (subst hSw); go_simp <;> with_reducible rfl)
          clear hInv
          have hInv := hInv2
          clear hInv2
          try simp only [Act.put, List.setIfInBounds_toArray, List.set_cons_zero, List.set_cons_succ] at hInv ⊢
          refine takeS 13 (v := ?_) (tailAt (by kernel_rfl)) hInv (by decide) rfl (by kernel_rfl) (by kernel_rfl) (by kernel_rfl) (fun _ _ _ h => h) (by rfl) (by assumption) ?_ (fun hInv2 => ?_)
          rotate_left
          · (intro w hSw; (try dsimp only at hSw); (subst hSw); go_simp <;> with_reducible rfl)
          clear hInv
          have hInv := hInv2
          clear hInv2
          try simp only [Act.put, List.setIfInBounds_toArray, List.set_cons_zero, List.set_cons_succ] at hInv ⊢
          refine takeS 14 (v := ?_) (tailAt (by kernel_rfl)) hInv (by decide) rfl (by kernel_rfl) (by kernel_rfl) (by kernel_rfl) (fun _ _ _ h => h) (by rfl) (by assumption) ?_ (fun hInv2 => ?_)
          rotate_left
          · (intro w hSw; (try dsimp only at hSw); (subst hSw); go_simp <;> with_reducible rfl)
          clear hInv
          have hInv := hInv2
          clear hInv2
          try simp only [Act.put, List.setIfInBounds_toArray, List.set_cons_zero, List.set_cons_succ] at hInv ⊢
          refine lastS 15 rfl (by decide) (by kernel_rfl) (fun K hK => ?_)
          go_simp
          refine hK.out _ _ ?_
          clear hK K
          refine wpAnyS_done (by kernel_rfl) ?_ _
          (try rw [hWW])
          clear hInv hHeld
          go_wp2_with fail
          refine wp_region_tail (S := (fun w' => w' = (W1.setCell ⟨g, k * 5 + 4, none⟩ (.bool false)).drew)) (n := 24) (by kernel_rfl) ?_ (fun hHeld hInv => ?_) (by decide)
          · (try dsimp only)
            all_goals rfl
          refine takeS 0 (v := ?_) (tailAt (by kernel_rfl)) hInv (by decide) rfl (by kernel_rfl) (by kernel_rfl) (by kernel_rfl) (fun _ _ _ h => h) (by rfl) (by assumption) ?_ (fun hInv2 => ?_)
          rotate_left
          · (intro w hSw; (try dsimp only at hSw); (subst hSw); go_simp <;> with_reducible rfl)
          clear hInv
          have hInv := hInv2
          clear hInv2
          try simp only [Act.put, List.setIfInBounds_toArray, List.set_cons_zero, List.set_cons_succ] at hInv ⊢
          refine takeS 1 (v := ?_) (tailAt (by kernel_rfl)) hInv (by decide) rfl (by kernel_rfl) (by kernel_rfl) (by kernel_rfl) (fun _ _ _ h => h) (by rfl) (by assumption) ?_ (fun hInv2 => ?_)
          rotate_left
          · (intro w hSw; (try dsimp only at hSw); (subst hSw); go_simp <;> with_reducible rfl)
          clear hInv
          have hInv := hInv2
          clear hInv2
          try simp only [Act.put, List.setIfInBounds_toArray, List.set_cons_zero, List.set_cons_succ] at hInv ⊢
          refine takeS 2 (v := ?_) (tailAt (by kernel_rfl)) hInv (by decide) rfl (by kernel_rfl) (by kernel_rfl) (by kernel_rfl) (fun _ _ _ h => h) (by rfl) (by assumption) ?_ (fun hInv2 => ?_)
          rotate_left
          · (intro w hSw; (try dsimp only at hSw); (subst hSw); go_simp <;> with_reducible rfl)
          clear hInv
          have hInv := hInv2
          clear hInv2
          try simp only [Act.put, List.setIfInBounds_toArray, List.set_cons_zero, List.set_cons_succ] at hInv ⊢
          refine takeS 3 (v := ?_) (tailAt (by kernel_rfl)) hInv (by decide) rfl (by kernel_rfl) (by kernel_rfl) (by kernel_rfl) (fun _ _ _ h => h) (by rfl) (by assumption) ?_ (fun hInv2 => ?_)
          rotate_left
          · (intro w hSw; (try dsimp only at hSw); (subst hSw); go_simp <;> with_reducible rfl)
          clear hInv
          have hInv := hInv2
          clear hInv2
          try simp only [Act.put, List.setIfInBounds_toArray, List.set_cons_zero, List.set_cons_succ] at hInv ⊢
          refine takeS 4 (v := ?_) (tailAt (by kernel_rfl)) hInv (by decide) rfl (by kernel_rfl) (by kernel_rfl) (by kernel_rfl) (fun _ _ _ h => h) (by rfl) (by assumption) ?_ (fun hInv2 => ?_)
          rotate_left
          · (intro w hSw; (try dsimp only at hSw); (subst hSw); go_simp <;> with_reducible rfl)
          clear hInv
          have hInv := hInv2
          clear hInv2
          try simp only [Act.put, List.setIfInBounds_toArray, List.set_cons_zero, List.set_cons_succ] at hInv ⊢
          refine takeS 5 (v := ?_) (tailAt (by kernel_rfl)) hInv (by decide) rfl (by kernel_rfl) (by kernel_rfl) (by kernel_rfl) (fun _ _ _ h => h) (by rfl) (by assumption) ?_ (fun hInv2 => ?_)
          rotate_left
          · (intro w hSw; (try dsimp only at hSw); (subst hSw); go_simp <;> with_reducible rfl)
          clear hInv
          have hInv := hInv2
          clear hInv2
          try simp only [Act.put, List.setIfInBounds_toArray, List.set_cons_zero, List.set_cons_succ] at hInv ⊢
          refine takeS 6 (v := ?_) (tailAt (by kernel_rfl)) hInv (by decide) rfl (by kernel_rfl) (by kernel_rfl) (by kernel_rfl) (fun _ _ _ h => h) (by rfl) (by assumption) ?_ (fun hInv2 => ?_)
          rotate_left
          · (intro w hSw; (try dsimp only at hSw); (subst hSw); go_simp <;> with_reducible rfl)
          clear hInv
          have hInv := hInv2
          clear hInv2
          try simp only [Act.put, List.setIfInBounds_toArray, List.set_cons_zero, List.set_cons_succ] at hInv ⊢
          refine takeS 7 (v := ?_) (tailAt (by kernel_rfl)) hInv (by decide) rfl (by kernel_rfl) (by kernel_rfl) (by kernel_rfl) (fun _ _ _ h => h) (by rfl) (by assumption) ?_ (fun hInv2 => ?_)
          rotate_left
          · (intro w hSw; (try dsimp only at hSw); (subst hSw); go_simp <;> with_reducible rfl)
          clear hInv
          have hInv := hInv2
          clear hInv2
          try simp only [Act.put, List.setIfInBounds_toArray, List.set_cons_zero, List.set_cons_succ] at hInv ⊢
          refine takeS 8 (v := ?_) (tailAt (by kernel_rfl)) hInv (by decide) rfl (by kernel_rfl) (by kernel_rfl) (by kernel_rfl) (fun _ _ _ h => h) (by rfl) (by assumption) ?_ (fun hInv2 => ?_)
          rotate_left
          · (intro w hSw; (try dsimp only at hSw); (subst hSw); go_simp <;> with_reducible rfl)
          clear hInv
          have hInv := hInv2
          clear hInv2
          try simp only [Act.put, List.setIfInBounds_toArray, List.set_cons_zero, List.set_cons_succ] at hInv ⊢
          refine takeS 9 (v := ?_) (tailAt (by kernel_rfl)) hInv (by decide) rfl (by kernel_rfl) (by kernel_rfl) (by kernel_rfl) (fun _ _ _ h => h) (by rfl) (by assumption) ?_ (fun hInv2 => ?_)
          rotate_left
          · (intro w hSw; (try dsimp only at hSw); (subst hSw); go_simp <;> with_reducible rfl)
          clear hInv
          have hInv := hInv2
          clear hInv2
          try simp only [Act.put, List.setIfInBounds_toArray, List.set_cons_zero, List.set_cons_succ] at hInv ⊢
          refine takeS 10 (v := ?_) (tailAt (by kernel_rfl)) hInv (by decide) rfl (by kernel_rfl) (by kernel_rfl) (by kernel_rfl) (fun _ _ _ h => h) (by rfl) (by assumption) ?_ (fun hInv2 => ?_)
          rotate_left
          · (intro w hSw; (try dsimp only at hSw); (subst hSw); go_simp <;> with_reducible rfl)
          clear hInv
          have hInv := hInv2
          clear hInv2
          try simp only [Act.put, List.setIfInBounds_toArray, List.set_cons_zero, List.set_cons_succ] at hInv ⊢
          refine takeS 11 (v := ?_) (tailAt (by kernel_rfl)) hInv (by decide) rfl (by kernel_rfl) (by kernel_rfl) (by kernel_rfl) (fun _ _ _ h => h) (by rfl) (by assumption) ?_ (fun hInv2 => ?_)
          rotate_left
          · (intro w hSw; (try dsimp only at hSw); (subst hSw); go_simp <;> with_reducible rfl)
          clear hInv
          have hInv := hInv2
          clear hInv2
          try simp only [Act.put, List.setIfInBounds_toArray, List.set_cons_zero, List.set_cons_succ] at hInv ⊢
          refine takeS 12 (v := ?_) (tailAt (by kernel_rfl)) hInv (by decide) rfl (by kernel_rfl) (by kernel_rfl) (by kernel_rfl) (fun _ _ _ h => h) (by rfl) (by assumption) ?_ (fun hInv2 => ?_)
          rotate_left
          · (intro w hSw; (try dsimp only at hSw); (subst hSw); go_simp <;> with_reducible rfl)
          clear hInv
          have hInv := hInv2
          clear hInv2
          try simp only [Act.put, List.setIfInBounds_toArray, List.set_cons_zero, List.set_cons_succ] at hInv ⊢
          refine takeS 13 (v := ?_) (tailAt (by kernel_rfl)) hInv (by decide) rfl (by kernel_rfl) (by kernel_rfl) (by kernel_rfl) (fun _ _ _ h => h) (by rfl) (by assumption) ?_ (fun hInv2 => ?_)
          rotate_left
          · (intro w hSw; (try dsimp only at hSw); (subst hSw); go_simp <;> with_reducible rfl)
          clear hInv
          have hInv := hInv2
          clear hInv2
          try simp only [Act.put, List.setIfInBounds_toArray, List.set_cons_zero, List.set_cons_succ] at hInv ⊢
          refine takeS 14 (v := ?_) (tailAt (by kernel_rfl)) hInv (by decide) rfl (by kernel_rfl) (by kernel_rfl) (by kernel_rfl) (fun _ _ _ h => h) (by rfl) (by assumption) ?_ (fun hInv2 => ?_)
          rotate_left
          · (intro w hSw; (try dsimp only at hSw); (subst hSw); go_simp <;> with_reducible rfl)
          clear hInv
          have hInv := hInv2
          clear hInv2
          try simp only [Act.put, List.setIfInBounds_toArray, List.set_cons_zero, List.set_cons_succ] at hInv ⊢
          refine takeS 15 (v := ?_) (tailAt (by kernel_rfl)) hInv (by decide) rfl (by kernel_rfl) (by kernel_rfl) (by kernel_rfl) (fun _ _ _ h => h) (by rfl) (by assumption) ?_ (fun hInv2 => ?_)
          rotate_left
          · (intro w hSw; (try dsimp only at hSw); (subst hSw); go_simp <;> with_reducible rfl)
          clear hInv
          have hInv := hInv2
          clear hInv2
          try simp only [Act.put, List.setIfInBounds_toArray, List.set_cons_zero, List.set_cons_succ] at hInv ⊢
          refine takeS 16 (v := ?_) (tailAt (by kernel_rfl)) hInv (by decide) rfl (by kernel_rfl) (by kernel_rfl) (by kernel_rfl) (fun _ _ _ h => h) (by rfl) (by assumption) ?_ (fun hInv2 => ?_)
          rotate_left
          · (intro w hSw; (try dsimp only at hSw); (subst hSw); go_simp <;> with_reducible rfl)
          clear hInv
          have hInv := hInv2
          clear hInv2
          try simp only [Act.put, List.setIfInBounds_toArray, List.set_cons_zero, List.set_cons_succ] at hInv ⊢
          refine takeS 17 (v := ?_) (tailAt (by kernel_rfl)) hInv (by decide) rfl (by kernel_rfl) (by kernel_rfl) (by kernel_rfl) (fun _ _ _ h => h) (by rfl) (by assumption) ?_ (fun hInv2 => ?_)
          rotate_left
          · (intro w hSw; (try dsimp only at hSw); (subst hSw); go_simp <;> with_reducible rfl)
          clear hInv
          have hInv := hInv2
          clear hInv2
          try simp only [Act.put, List.setIfInBounds_toArray, List.set_cons_zero, List.set_cons_succ] at hInv ⊢
          refine takeS 18 (v := ?_) (tailAt (by kernel_rfl)) hInv (by decide) rfl (by kernel_rfl) (by kernel_rfl) (by kernel_rfl) (fun _ _ _ h => h) (by rfl) (by assumption) ?_ (fun hInv2 => ?_)
          rotate_left
          · (intro w hSw; (try dsimp only at hSw); (subst hSw); go_simp <;> with_reducible rfl)
          clear hInv
          have hInv := hInv2
          clear hInv2
          try simp only [Act.put, List.setIfInBounds_toArray, List.set_cons_zero, List.set_cons_succ] at hInv ⊢
          refine takeS 19 (v := ?_) (tailAt (by kernel_rfl)) hInv (by decide) rfl (by kernel_rfl) (by kernel_rfl) (by kernel_rfl) (fun _ _ _ h => h) (by rfl) (by assumption) ?_ (fun hInv2 => ?_)
          rotate_left
          · (intro w hSw; (try dsimp only at hSw); (subst hSw); go_simp <;> with_reducible rfl)
          clear hInv
          have hInv := hInv2
          clear hInv2
          try simp only [Act.put, List.setIfInBounds_toArray, List.set_cons_zero, List.set_cons_succ] at hInv ⊢
          refine takeS 20 (v := ?_) (tailAt (by kernel_rfl)) hInv (by decide) rfl (by kernel_rfl) (by kernel_rfl) (by kernel_rfl) (fun _ _ _ h => h) (by rfl) (by assumption) ?_ (fun hInv2 => ?_)
          rotate_left
          · (intro w hSw; (try dsimp only at hSw); (subst hSw); go_simp <;> with_reducible rfl)
          clear hInv
          have hInv := hInv2
          clear hInv2
          try simp only [Act.put, List.setIfInBounds_toArray, List.set_cons_zero, List.set_cons_succ] at hInv ⊢
          refine takeS 21 (v := ?_) (tailAt (by kernel_rfl)) hInv (by decide) rfl (by kernel_rfl) (by kernel_rfl) (by kernel_rfl) (fun _ _ _ h => h) (by rfl) (by assumption) ?_ (fun hInv2 => ?_)
          rotate_left
          · (intro w hSw; (try dsimp only at hSw); (subst hSw); go_simp <;> with_reducible rfl)
          clear hInv
          have hInv := hInv2
          clear hInv2
          try simp only [Act.put, List.setIfInBounds_toArray, List.set_cons_zero, List.set_cons_succ] at hInv ⊢
          refine takeS 22 (v := ?_) (tailAt (by kernel_rfl)) hInv (by decide) rfl (by kernel_rfl) (by kernel_rfl) (by kernel_rfl) (fun _ _ _ h => h) (by rfl) (by assumption) ?_ (fun hInv2 => ?_)
          rotate_left
          · (intro w hSw; (try dsimp only at hSw); (subst hSw); go_simp <;> with_reducible rfl)
          clear hInv
          have hInv := hInv2
          clear hInv2
          try simp only [Act.put, List.setIfInBounds_toArray, List.set_cons_zero, List.set_cons_succ] at hInv ⊢
          refine takeS 23 (v := ?_) (tailAt (by kernel_rfl)) hInv (by decide) rfl (by kernel_rfl) (by kernel_rfl) (by kernel_rfl) (fun _ _ _ h => h) (by rfl) (by assumption) ?_ (fun hInv2 => ?_)
          rotate_left
          · (intro w hSw; (try dsimp only at hSw); (subst hSw); go_simp <;> with_reducible rfl)
          clear hInv
          have hInv := hInv2
          clear hInv2
          try simp only [Act.put, List.setIfInBounds_toArray, List.set_cons_zero, List.set_cons_succ] at hInv ⊢
          refine lastS 24 rfl (by decide) (by kernel_rfl) (fun K hK => ?_)
          go_simp
          refine hK.out _ _ ?_
          clear hK K
          refine wpAnyS_done (by kernel_rfl) ?_ _
          go_wp2_with fail
          go_roundw
          case rel => exact ⟨k + 1, by omega, by go_num, hLf⟩
          case measure => simp [intOf]; omega
      · obtain rfl : k = N := by omega
        obtain ⟨y, _, _, _, ⟨c0, _⟩, _⟩ := hLh.out.word (i := 0) (by omega)
        have hfr : (fk s k).fuse = (stepD s).fuse ∧ (fk s k).dead = (stepD s).dead ∧ (fk s k).steps = (stepD s).steps := by
          obtain ⟨t1, t2, t3⟩ := fen_rest (keysL k s.f) (stepD s)
          exact ⟨t2, t3, t1⟩
        replace hfr := Lib.hid hfr
        go_wp2_with fail
        go_end0
        exact ⟨rfl, hLh.out.at hfr.out.1 hfr.out.2.1 hfr.out.2.2⟩
end Go.Proofs.Ytcemiclbeocnjaa
