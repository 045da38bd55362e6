/-
  Layer 3 (pmem): the document's Flush.
-/
import Derived.Test.YtcemiclbeocnjaaPm14
import Derived.Test.YtcemiclbeocnjaaRegS
set_option linter.unusedVariables false
set_option linter.unusedSimpArgs false
namespace Go.Proofs.Ytcemiclbeocnjaa
open Go.RowKit Go.ChangeShapes Go.WideShapes Go.Deep Go.Maps

/-- the document's device between two rounds: what the head says, what the words say -/
def RvL (w0 wr : World) (B : Nat) (v0 : Value) (F : Nat → Prop) (N : Nat) (s1 s2 : Dv) : Prop := ∃ W, RvM wr B v0 F s1 W ∧ W.length = N ∧ WRel s2 W ∧ Chg F w0 wr
theorem RvL.at {w0 wr : World} {B : Nat} {v0 : Value} {F : Nat → Prop} {N : Nat} {s1 s2 : Dv} (h : RvL w0 wr B v0 F N s1 s2) (h1 : s2.fuse = s1.fuse) (h2 : s2.dead = s1.dead) (h3 : s2.steps = s1.steps) : RvAt wr B F s2 ∧ Chg F w0 wr := by
  obtain ⟨W, hM, _, hW, hc⟩ := h
  exact ⟨⟨v0, W, ⟨by rw [h1, h2, h3]; exact hM.blk, hM.row, hM.fB, hM.f0, hM.lt⟩, hW⟩, hc⟩
theorem RvL.of {w0 wr : World} {B : Nat} {F : Nat → Prop} {N : Nat} {s : Dv} (h : RvAt wr B F s) (hN : s.L.length = N) (h0 : 0 < N) (hc : Chg F w0 wr) : ∃ g cap, F g ∧ RvL w0 wr B (.slice (some ⟨g, 0, none⟩) N cap) F N s s := by
  obtain ⟨v0, W, hM, hW⟩ := h
  have hl : W.length = N := hW.1.trans hN
  obtain ⟨g, cap, rfl, hgF, _⟩ := hM.form (by omega)
  rw [hl] at hM
  exact ⟨g, cap, hgF, W, hM, hl, hW, hc⟩
theorem RvL.same {w0 wr : World} {B : Nat} {v0 : Value} {F : Nat → Prop} {N : Nat} {s1 s2 s3 : Dv} (h : RvL w0 wr B v0 F N s1 s2) (hl : s3.L.length = s2.L.length) (hs : ∀ j, j < N → s3.L.getD j 0 = s2.L.getD j 0 ∧ s3.c (j : Int) = s2.c (j : Int) ∧ s3.f (j : Int) = s2.f (j : Int)) : RvL w0 wr B v0 F N s1 s3 := by
  obtain ⟨W, hM, hl2, hW, hc⟩ := h
  exact ⟨W, hM, hl2, hW.same hl (fun j hj => hs j (by omega)), hc⟩
/-- the word that lies at i, with where it lies -/
theorem RvL.word {w0 wr : World} {B g cap N : Nat} {F : Nat → Prop} {s1 s2 : Dv} (h : RvL w0 wr B (.slice (some ⟨g, 0, none⟩) N cap) F N s1 s2) {i : Nat} (hi : i < N) : ∃ y : Wd, WAt s2 i y ∧
    (wr.cell? ⟨g, i * 5, none⟩ = some (.int .u64 (y.1 : Nat)) ∧ wr.cell? ⟨g, i * 5 + 1, none⟩ = some (.int .u64 (y.2.1 : Nat)) ∧ wr.cell? ⟨g, i * 5 + 2, none⟩ = some (.int .u64 (y.2.2.1 : Nat)) ∧ wr.cell? ⟨g, i * 5 + 3, none⟩ = some (.bool y.2.2.2.1) ∧ wr.cell? ⟨g, i * 5 + 4, none⟩ = some (.bool y.2.2.2.2)) ∧
    (∀ o, wr.frozen? ⟨g, o, none⟩ = false) ∧ (wr.cell? ⟨B, 0, none⟩ = some (.slice (some ⟨g, 0, none⟩) N cap) ∧ wr.cell? ⟨B, 1, none⟩ = some (.int .i64 s1.fuse) ∧ wr.cell? ⟨B, 2, none⟩ = some (.bool s1.dead) ∧ ∀ o, wr.frozen? ⟨B, o, none⟩ = false) ∧ B < wr.heap.size ∧ g < wr.heap.size ∧
    (∀ (j : Nat) (u : Value) (x : Wd), j < 5 → wE x = (wE y).set j u → ∀ s3 : Dv, WAt s3 i x → s3.L.length = s2.L.length → (∀ j, j ≠ i → j < N → s3.L.getD j 0 = s2.L.getD j 0 ∧ s3.c (j : Int) = s2.c (j : Int) ∧ s3.f (j : Int) = s2.f (j : Int)) → RvL w0 (wr.setCell ⟨g, i * 5 + j, none⟩ u) B (.slice (some ⟨g, 0, none⟩) N cap) F N s1 s3) := by
  obtain ⟨W, hM, hl, hW, hc⟩ := h
  have hr := hM.row
  unfold OwnE at hr
  rw [hl] at hr
  refine ⟨W.getD i default, hW.2 i (by omega), ⟨?_, ?_, ?_, ?_, ?_⟩, fun o => hr.frozenAt o, ⟨hM.cells.1.1, hM.cells.1.2.1, hM.cells.1.2.2.1, hM.cells.2⟩, hM.lt _ hM.fB, hM.lt _ (hM.f0 g rfl), fun j u x hj he s3 hx hls hs => ?_⟩
  · exact (hM.row.cell wE_len hl hi (j := 0) (by decide)).1
  · exact (hM.row.cell wE_len hl hi (j := 1) (by decide)).1
  · exact (hM.row.cell wE_len hl hi (j := 2) (by decide)).1
  · exact (hM.row.cell wE_len hl hi (j := 3) (by decide)).1
  · exact (hM.row.cell wE_len hl hi (j := 4) (by decide)).1
  · exact ⟨_, hM.wset hl hi hj he, by rw [List.length_set]; exact hl, hW.set hx hls (fun j hj hj2 => hs j hj (by omega)), hc.trans (Chg.setCell wr g (i * 5 + j) u (hM.f0 g rfl)) (fun j q => .inl q)⟩
theorem RvL.drew {w0 wr : World} {B : Nat} {v0 : Value} {F : Nat → Prop} {N : Nat} {s1 s2 : Dv} (h : RvL w0 wr B v0 F N s1 s2) : RvL w0 wr.drew B v0 F N s1 s2 := by
  obtain ⟨W, hM, hl, hW, hc⟩ := h
  exact ⟨W, hM.keep (Below.refl _ _).drew, hl, hW, hc.trans (chg_drew F wr) (fun j q => .inl q)⟩
theorem fl_step {s : Dv} {lo hi : Int} {k : Nat} (h : (lo ≤ (k : Int) ∧ (k : Int) < hi → s.c (k : Int) = none)) : fl s lo (min hi ((k + 1 : Nat) : Int)) = fl s lo (min hi (k : Int)) := by
  by_cases h1 : (k : Int) < hi
  · rw [show min hi ((k + 1 : Nat) : Int) = (k : Int) + 1 by omega, show min hi (k : Int) = (k : Int) by omega]
    by_cases h2 : lo ≤ (k : Int)
    · exact fl_none (h ⟨h2, h1⟩)
    · rw [fl_far (by omega), fl_far (by omega)]
  · rw [show min hi ((k + 1 : Nat) : Int) = hi by omega, show min hi (k : Int) = hi by omega]
theorem fl_yes {s : Dv} {lo hi : Int} {k v : Nat} (h1 : lo ≤ (k : Int)) (h2 : (k : Int) < hi) (hc : s.c (k : Int) = some v) : fl s lo (min hi ((k + 1 : Nat) : Int)) = putU (fl s lo (min hi (k : Int))) (k : Int) v := by
  rw [show min hi ((k + 1 : Nat) : Int) = (k : Int) + 1 by omega, show min hi (k : Int) = (k : Int) by omega]
  exact fl_some h1 hc

set_option maxRecDepth 10000 in
set_option maxHeartbeats 4000000 in
theorem rFlush (B : Nat) (F : Nat → Prop) (s : Dv) (x many : Int) (w : World) (h : RvAt w B F s) (hg : GoodD s) (hx : -1099511627776 ≤ x ∧ x ≤ 1099511627776) (hm : -1099511627776 ≤ many ∧ many ≤ 1099511627776) :
    Calls Try.prog 55 #[.pointer (some ⟨B, 0, none⟩), .int .i64 x, .int .i64 many] w fun e w' => e = .returned (.tuple #[]) ∧ RvAt w' B F (flushD s x many) ∧ Chg F w w' := by
  have hS := rStep B F s w h hg
  have hse := Lib.hid (stepD_same s)
  have hl0 := hg.len0
  have hlen := hg.len
  obtain ⟨N, hN⟩ : ∃ N, s.L.length = N := ⟨_, rfl⟩
  rw [hN] at hl0 hlen
  unfold flushD
  cases hd : doneD s with
  | false =>
    rw [hd] at hS
    rw [if_neg (by simp)]
    clear h hg
    go_enter Try.func55, Try.ntmps55
    go_wp2_with (go_at_call 84; refine hS.mono ?_; rintro e w2 ⟨rfl, h2, hc2⟩; clear hS
                 obtain ⟨g, cap, hgF, hL⟩ := RvL.of (N := N) h2 (by rw [hse.out.1]; exact hN) (by omega) hc2
                 obtain ⟨y, _, _, _, ⟨c0, _⟩, _⟩ := hL.word (i := 0) (by omega)
                 have h0N : (0 : Int) < (N : Int) := by omega)
    go_loopw [7] (fun i wr => i = .int .i64 0 ∧ wr = w2) (fun i _ => 0)
    case atStart => exact ⟨rfl, rfl⟩
    case round =>
      obtain ⟨rfl, rfl⟩ := hrel
      go_wp2_with fail
      go_end0
      exact ⟨rfl, h2, hc2⟩
  | true =>
    rw [hd] at hS
    rw [if_pos rfl]
    clear h hg
    obtain ⟨lo, hlo⟩ : ∃ lo, max x 0 = lo := ⟨_, rfl⟩
    obtain ⟨hi, hhi⟩ : ∃ hi, min (x + many) (N : Int) = hi := ⟨_, rfl⟩
    rw [hN, hlo, hhi]
    go_enter Try.func55, Try.ntmps55
    go_wp2_with (go_at_call 84; refine hS.mono ?_; rintro e w2 ⟨rfl, h2, hc2⟩; clear hS)
    obtain ⟨g, cap, hgF, hL⟩ := RvL.of (N := N) h2 (by rw [hse.out.1]; exact hN) (by omega) hc2
    have hL0 := Lib.hid (hL.same (s3 := { stepD s with f := fl s lo (min hi ((0 : Nat) : Int)), n := s.n + N }) rfl (fun j _ => ⟨rfl, rfl, by simp only []; rw [fl_far (by omega)]; rw [hse.out.2.2.1]⟩))
    clear h2 hc2 hL
    go_loopw [7] (fun i wr => ∃ k : Nat, k ≤ N ∧ i = .int .i64 k ∧ Hid (RvL w wr B (.slice (some ⟨g, 0, none⟩) N cap) F N (stepD s) { stepD s with f := fl s lo (min hi (k : Int)), n := s.n + N })) (fun i _ => N + 1 - (intOf i).toNat)
    case atStart => exact ⟨0, Nat.zero_le _, rfl, hL0⟩
    case round =>
      clear hL0
      obtain ⟨k, hk, rfl, hLh⟩ := hrel
      by_cases hlt : k < N
      · obtain ⟨y, hat, ⟨d0, d1, d2, d3, d4⟩, fg, ⟨c0, _⟩, hBl, hgl, hset⟩ := hLh.out.word hlt
        have hlt' : (k : Int) < (N : Int) := by omega
        obtain ⟨r1, r2, r3, r4, r5⟩ := hat
        simp only [hse.out.2.1] at r2 r3
        cases hcx : s.c (k : Int) with
        | none =>
          rw [hcx] at r2
          simp only [Option.isSome_none] at r2
          rw [r2] at d3
          have hfl := Lib.hid (fl_step (s := s) (lo := lo) (hi := hi) (k := k) (fun _ => hcx))
          clear hset d0 d1 d2 d4 fg r1 r3 r4 r5
          go_wp2_with fail
          go_roundw
          case rel => exact ⟨k + 1, by omega, by go_num, by rw [hfl.out]; exact hLh⟩
          case measure => simp [intOf]; omega
        | some v =>
          rw [hcx] at r2
          simp only [Option.isSome_some] at r2
          rw [r2] at d3
          have r6 := r3 v hcx
          by_cases h1 : x ≤ (k : Int)
          · by_cases h2 : (k : Int) - x < many
            · have hfl := Lib.hid (fl_yes (s := s) (lo := lo) (hi := hi) (k := k) (v := v) (by omega) (by omega) hcx)
              obtain ⟨y0, y1, y2, y3, y4⟩ := y
              simp only [] at d0 d1 d2 d3 d4 r1 r2 r3 r4 r5 r6
              subst r2
              subst r6
              have f4 := fg (k * 5 + 4)
              -- the mark first, then the word
              have hL1 := hset 4 (.bool true) (y0, y1, y2, true, true) (by decide) rfl { stepD s with f := putU (fl s lo (min hi (k : Int))) (k : Int) y2, n := s.n + N } ⟨r1, by simp only [hse.out.2.1, hcx]; rfl, fun a ha => by simp only [hse.out.2.1, hcx] at ha; cases ha; rfl, by simp [putU], fun a ha => by simp only [putU, if_pos] at ha; cases ha; rfl⟩ rfl (fun j hj _ => ⟨rfl, rfl, by simp only [putU, if_neg (show ¬ (j : Int) = (k : Int) by omega)]⟩)
              obtain ⟨yy, hat2, ⟨e0, e1, e2, e3, e4⟩, fg2, ⟨b0, _⟩, hBl2, hgl2, hset2⟩ := hL1.drew.word hlt
              obtain ⟨t1, t2, t3, t4, t5⟩ := hat2
              simp only [hse.out.2.1, hcx] at t2 t3
              have t6 := t3 y1 rfl
              obtain ⟨z0, z1, z2, z3, z4⟩ := yy
              simp only [Option.isSome_some] at t2
              simp only [putU, if_pos, Option.isSome_some] at t4 t5
              simp only [] at t1 t2 t3 t4 t5 t6 e0 e1 e2 e3 e4
              subst t2
              subst t4
              subst t6
              have hL2 := Lib.hid (hset2 2 (.int .u64 (z1 : Nat)) (z0, z1, z1, true, true) (by decide) rfl { stepD s with f := putU (fl s lo (min hi (k : Int))) (k : Int) z1, n := s.n + N } ⟨t1, by simp only [hse.out.2.1, hcx]; rfl, fun a ha => by simp only [hse.out.2.1, hcx] at ha; cases ha; rfl, by simp [putU], fun a ha => by simp only [putU, if_pos] at ha; cases ha; rfl⟩ rfl (fun j hj _ => ⟨rfl, rfl, by simp only [putU, if_neg (show ¬ (j : Int) = (k : Int) by omega)]⟩))
              have f2 := fg2 (k * 5 + 2)
              clear hset hset2 hL1 fg fg2 d0 d1 d2 e0 e3 e4 r1 r3 r4 r5 t1 t3 t5 hcx
              go_wp2_with fail
              refine wp_region_tail (S := (fun w' => w' = (wr.setCell ⟨g, k * 5 + 4, none⟩ (.bool true)).drew)) (n := 15) (by kernel_rfl) ?_ (fun hHeld hInv => ?_) (by decide)
              · (try dsimp only)
                all_goals rfl
              refine takeS 0 (v := ?_) (tailAt (by kernel_rfl)) hInv (by decide) rfl (by kernel_rfl) (by kernel_rfl) (by kernel_rfl) (fun _ _ _ h => h) (by rfl) (by assumption) ?_ (fun hInv2 => ?_)
              rotate_left
              · (intro w hSw; (try dsimp only at hSw); (subst hSw); go_simp <;> with_reducible rfl)
              clear hInv
              have hInv := hInv2
              clear hInv2
              try simp only [Act.put, List.setIfInBounds_toArray, List.set_cons_zero, List.set_cons_succ] at hInv ⊢
              refine takeS 1 (v := ?_) (tailAt (by kernel_rfl)) hInv (by decide) rfl (by kernel_rfl) (by kernel_rfl) (by kernel_rfl) (fun _ _ _ h => h) (by rfl) (by assumption) ?_ (fun hInv2 => ?_)
              rotate_left
              · (intro w hSw; (try dsimp only at hSw); (subst hSw); go_simp <;> with_reducible rfl)
              clear hInv
              have hInv := hInv2
              clear hInv2
              try simp only [Act.put, List.setIfInBounds_toArray, List.set_cons_zero, List.set_cons_succ] at hInv ⊢
              refine takeS 2 (v := ?_) (tailAt (by kernel_rfl)) hInv (by decide) rfl (by kernel_rfl) (by kernel_rfl) (by kernel_rfl) (fun _ _ _ h => h) (by rfl) (by assumption) ?_ (fun hInv2 => ?_)
              rotate_left
              · (intro w hSw; (try dsimp only at hSw); (subst hSw); go_simp <;> with_reducible rfl)
              clear hInv
              have hInv := hInv2
              clear hInv2
              try simp only [Act.put, List.setIfInBounds_toArray, List.set_cons_zero, List.set_cons_succ] at hInv ⊢
              refine takeS 3 (v := ?_) (tailAt (by kernel_rfl)) hInv (by decide) rfl (by kernel_rfl) (by kernel_rfl) (by kernel_rfl) (fun _ _ _ h => h) (by rfl) (by assumption) ?_ (fun hInv2 => ?_)
              rotate_left
              · (intro w hSw; (try dsimp only at hSw); (subst hSw); go_simp <;> with_reducible rfl)
              clear hInv
              have hInv := hInv2
              clear hInv2
              try simp only [Act.put, List.setIfInBounds_toArray, List.set_cons_zero, List.set_cons_succ] at hInv ⊢
              refine takeS 4 (v := ?_) (tailAt (by kernel_rfl)) hInv (by decide) rfl (by kernel_rfl) (by kernel_rfl) (by kernel_rfl) (fun _ _ _ h => h) (by rfl) (by assumption) ?_ (fun hInv2 => ?_)
              rotate_left
              · (intro w hSw; (try dsimp only at hSw); (subst hSw); go_simp <;> with_reducible rfl)
              clear hInv
              have hInv := hInv2
              clear hInv2
              try simp only [Act.put, List.setIfInBounds_toArray, List.set_cons_zero, List.set_cons_succ] at hInv ⊢
              refine takeS 5 (v := ?_) (tailAt (by kernel_rfl)) hInv (by decide) rfl (by kernel_rfl) (by kernel_rfl) (by kernel_rfl) (fun _ _ _ h => h) (by rfl) (by assumption) ?_ (fun hInv2 => ?_)
              rotate_left
              · (intro w hSw; (try dsimp only at hSw); (subst hSw); go_simp <;> with_reducible rfl)
              clear hInv
              have hInv := hInv2
              clear hInv2
              try simp only [Act.put, List.setIfInBounds_toArray, List.set_cons_zero, List.set_cons_succ] at hInv ⊢
              refine takeS 6 (v := ?_) (tailAt (by kernel_rfl)) hInv (by decide) rfl (by kernel_rfl) (by kernel_rfl) (by kernel_rfl) (fun _ _ _ h => h) (by rfl) (by assumption) ?_ (fun hInv2 => ?_)
              rotate_left
              · (intro w hSw; (try dsimp only at hSw); (subst hSw); go_simp <;> with_reducible rfl)
              clear hInv
              have hInv := hInv2
              clear hInv2
              try simp only [Act.put, List.setIfInBounds_toArray, List.set_cons_zero, List.set_cons_succ] at hInv ⊢
              refine takeS 7 (v := ?_) (tailAt (by kernel_rfl)) hInv (by decide) rfl (by kernel_rfl) (by kernel_rfl) (by kernel_rfl) (fun _ _ _ h => h) (by rfl) (by assumption) ?_ (fun hInv2 => ?_)
              rotate_left
              · (intro w hSw; (try dsimp only at hSw); (subst hSw); go_simp <;> with_reducible rfl)
              clear hInv
              have hInv := hInv2
              clear hInv2
              try simp only [Act.put, List.setIfInBounds_toArray, List.set_cons_zero, List.set_cons_succ] at hInv ⊢
              refine takeS 8 (v := ?_) (tailAt (by kernel_rfl)) hInv (by decide) rfl (by kernel_rfl) (by kernel_rfl) (by kernel_rfl) (fun _ _ _ h => h) (by rfl) (by assumption) ?_ (fun hInv2 => ?_)
              rotate_left
              · (intro w hSw; (try dsimp only at hSw); (subst hSw); go_simp <;> with_reducible rfl)
              clear hInv
              have hInv := hInv2
              clear hInv2
              try simp only [Act.put, List.setIfInBounds_toArray, List.set_cons_zero, List.set_cons_succ] at hInv ⊢
              refine takeS 9 (v := ?_) (tailAt (by kernel_rfl)) hInv (by decide) rfl (by kernel_rfl) (by kernel_rfl) (by kernel_rfl) (fun _ _ _ h => h) (by rfl) (by assumption) ?_ (fun hInv2 => ?_)
              rotate_left
              · (intro w hSw; (try dsimp only at hSw); (subst hSw); go_simp <;> with_reducible rfl)
              clear hInv
              have hInv := hInv2
              clear hInv2
              try simp only [Act.put, List.setIfInBounds_toArray, List.set_cons_zero, List.set_cons_succ] at hInv ⊢
              refine takeS 10 (v := ?_) (tailAt (by kernel_rfl)) hInv (by decide) rfl (by kernel_rfl) (by kernel_rfl) (by kernel_rfl) (fun _ _ _ h => h) (by rfl) (by assumption) ?_ (fun hInv2 => ?_)
              rotate_left
              · (intro w hSw; (try dsimp only at hSw); (subst hSw); go_simp <;> with_reducible rfl)
              clear hInv
              have hInv := hInv2
              clear hInv2
              try simp only [Act.put, List.setIfInBounds_toArray, List.set_cons_zero, List.set_cons_succ] at hInv ⊢
              refine takeS 11 (v := ?_) (tailAt (by kernel_rfl)) hInv (by decide) rfl (by kernel_rfl) (by kernel_rfl) (by kernel_rfl) (fun _ _ _ h => h) (by rfl) (by assumption) ?_ (fun hInv2 => ?_)
              rotate_left
              · (intro w hSw; (try dsimp only at hSw); (subst hSw); go_simp <;> with_reducible rfl)
              clear hInv
              have hInv := hInv2
              clear hInv2
              try simp only [Act.put, List.setIfInBounds_toArray, List.set_cons_zero, List.set_cons_succ] at hInv ⊢
              refine takeS 12 (v := ?_) (tailAt (by kernel_rfl)) hInv (by decide) rfl (by kernel_rfl) (by kernel_rfl) (by kernel_rfl) (fun _ _ _ h => h) (by rfl) (by assumption) ?_ (fun hInv2 => ?_)
              rotate_left
              · (intro w hSw; (try dsimp only at hSw); (subst hSw); go_simp <;> with_reducible rfl)
              clear hInv
              have hInv := hInv2
              clear hInv2
              try simp only [Act.put, List.setIfInBounds_toArray, List.set_cons_zero, List.set_cons_succ] at hInv ⊢
              refine takeS 13 (v := ?_) (tailAt (by kernel_rfl)) hInv (by decide) rfl (by kernel_rfl) (by kernel_rfl) (by kernel_rfl) (fun _ _ _ h => h) (by rfl) (by assumption) ?_ (fun hInv2 => ?_)
              rotate_left
              · (intro w hSw; (try dsimp only at hSw); (subst hSw); go_simp <;> with_reducible rfl)
              clear hInv
              have hInv := hInv2
              clear hInv2
              try simp only [Act.put, List.setIfInBounds_toArray, List.set_cons_zero, List.set_cons_succ] at hInv ⊢
              refine takeS 14 (v := ?_) (tailAt (by kernel_rfl)) hInv (by decide) rfl (by kernel_rfl) (by kernel_rfl) (by kernel_rfl) (fun _ _ _ h => h) (by rfl) (by assumption) ?_ (fun hInv2 => ?_)
              rotate_left
              · (intro w hSw; (try dsimp only at hSw); (subst hSw); go_simp <;> with_reducible rfl)
              clear hInv
              have hInv := hInv2
              clear hInv2
              try simp only [Act.put, List.setIfInBounds_toArray, List.set_cons_zero, List.set_cons_succ] at hInv ⊢
              refine lastS 15 rfl (by decide) (by kernel_rfl) (fun K hK => ?_)
              go_simp
              refine hK.out _ _ ?_
              clear hK K
              refine wpAnyS_done (by kernel_rfl) ?_ _
              go_wp2_with fail
              go_roundw
              case rel => exact ⟨k + 1, by omega, by go_num, by rw [hfl.out]; exact hL2⟩
              case measure => simp [intOf]; omega
            · have hfl := Lib.hid (fl_step (s := s) (lo := lo) (hi := hi) (k := k) (fun q => by omega))
              have h3 : many ≤ (k : Int) - x := by omega
              clear hset d0 d1 d2 d4 fg r1 r3 r4 r5
              go_wp2_with fail
              go_roundw
              case rel => exact ⟨k + 1, by omega, by go_num, by rw [hfl.out]; exact hLh⟩
              case measure => simp [intOf]; omega
          · have hfl := Lib.hid (fl_step (s := s) (lo := lo) (hi := hi) (k := k) (fun q => by omega))
            have h3 : (k : Int) < x := by omega
            clear hset d0 d1 d2 d4 fg r1 r3 r4 r5
            go_wp2_with fail
            go_roundw
            case rel => exact ⟨k + 1, by omega, by go_num, by rw [hfl.out]; exact hLh⟩
            case measure => simp [intOf]; omega
      · obtain rfl : k = N := by omega
        obtain ⟨y, _, _, _, ⟨c0, _⟩, _⟩ := hLh.out.word (i := 0) (by omega)
        go_wp2_with fail
        go_end0
        have hEnd := hLh.out.at rfl rfl rfl
        rw [show min hi (k : Int) = hi by omega] at hEnd
        exact ⟨rfl, hEnd⟩
end Go.Proofs.Ytcemiclbeocnjaa
