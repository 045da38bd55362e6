/-
  Layer 20 (tx): the code's Made, Unmake, Make.
-/
import Derived.Test.YtcemiclbeocnjaaTk4
import Derived.Test.YtcemiclbeocnjaaRegS
set_option linter.unusedVariables false
set_option linter.unusedSimpArgs false
namespace Go.Proofs.Ytcemiclbeocnjaa
open Go.RowKit Go.ChangeShapes Go.WideShapes Go.Deep Go.Maps

theorem blk9 {w : World} {g : Nat} {u0 u1 u2 u3 u4 u5 u6 u7 u8 : Value} {t : TypeId} (h : w.heap[g]? = some (.cells #[u0, u1, u2, u3, u4, u5, u6, u7, u8] t (0, 0))) :
    (w.cell? ⟨g, 0, none⟩ = some u0 ∧ w.cell? ⟨g, 1, none⟩ = some u1 ∧ w.cell? ⟨g, 2, none⟩ = some u2 ∧ w.cell? ⟨g, 3, none⟩ = some u3 ∧ w.cell? ⟨g, 4, none⟩ = some u4 ∧ w.cell? ⟨g, 5, none⟩ = some u5 ∧ w.cell? ⟨g, 6, none⟩ = some u6 ∧ w.cell? ⟨g, 7, none⟩ = some u7 ∧ w.cell? ⟨g, 8, none⟩ = some u8) ∧
    (w.frozen? ⟨g, 0, none⟩ = false ∧ w.frozen? ⟨g, 1, none⟩ = false ∧ w.frozen? ⟨g, 2, none⟩ = false ∧ w.frozen? ⟨g, 3, none⟩ = false ∧ w.frozen? ⟨g, 4, none⟩ = false ∧ w.frozen? ⟨g, 5, none⟩ = false ∧ w.frozen? ⟨g, 6, none⟩ = false ∧ w.frozen? ⟨g, 7, none⟩ = false ∧ w.frozen? ⟨g, 8, none⟩ = false) :=
  ⟨⟨(cell_blk h rfl).1, (cell_blk h rfl).1, (cell_blk h rfl).1, (cell_blk h rfl).1, (cell_blk h rfl).1, (cell_blk h rfl).1, (cell_blk h rfl).1, (cell_blk h rfl).1, (cell_blk h rfl).1⟩, (cell_blk h (o := 0) rfl).2, (cell_blk h (o := 1) rfl).2, (cell_blk h (o := 2) rfl).2, (cell_blk h (o := 3) rfl).2, (cell_blk h (o := 4) rfl).2, (cell_blk h (o := 5) rfl).2, (cell_blk h (o := 6) rfl).2, (cell_blk h (o := 7) rfl).2, (cell_blk h (o := 8) rfl).2⟩
theorem st9 {W : World} {g : Nat} {u0 u1 u2 u3 u4 u5 u6 u7 u8 : Value} {t : TypeId} (h : W.heap[g]? = some (.cells #[u0, u1, u2, u3, u4, u5, u6, u7, u8] t (0, 0))) (a1 a2 a3 a4 : Int) (a5 : Bool) (a6 a7 a8 a9 : Int) :
    ∃ w9, w9 = (((((((((W.setCell ⟨g, 0, none⟩ (.int .i64 a1)).setCell ⟨g, 1, none⟩ (.int .i64 a2)).setCell ⟨g, 2, none⟩ (.int .i64 a3)).setCell ⟨g, 3, none⟩ (.int .i64 a4)).setCell ⟨g, 4, none⟩ (.bool a5)).setCell ⟨g, 5, none⟩ (.int .i64 a6)).setCell ⟨g, 6, none⟩ (.int .i64 a7)).setCell ⟨g, 7, none⟩ (.int .i64 a8)).setCell ⟨g, 8, none⟩ (.int .u64 a9)) ∧ w9.heap[g]? = some (.cells #[.int .i64 a1, .int .i64 a2, .int .i64 a3, .int .i64 a4, .bool a5, .int .i64 a6, .int .i64 a7, .int .i64 a8, .int .u64 a9] t (0, 0)) ∧ Chg (fun k => k = g) W w9 := by
  refine ⟨_, rfl, ?_, ?_⟩
  · replace h := set_blk (o := 0) (v := .int .i64 a1) h
    simp only [List.setIfInBounds_toArray, List.set_cons_zero, List.set_cons_succ] at h
    replace h := set_blk (o := 1) (v := .int .i64 a2) h
    simp only [List.setIfInBounds_toArray, List.set_cons_zero, List.set_cons_succ] at h
    replace h := set_blk (o := 2) (v := .int .i64 a3) h
    simp only [List.setIfInBounds_toArray, List.set_cons_zero, List.set_cons_succ] at h
    replace h := set_blk (o := 3) (v := .int .i64 a4) h
    simp only [List.setIfInBounds_toArray, List.set_cons_zero, List.set_cons_succ] at h
    replace h := set_blk (o := 4) (v := .bool a5) h
    simp only [List.setIfInBounds_toArray, List.set_cons_zero, List.set_cons_succ] at h
    replace h := set_blk (o := 5) (v := .int .i64 a6) h
    simp only [List.setIfInBounds_toArray, List.set_cons_zero, List.set_cons_succ] at h
    replace h := set_blk (o := 6) (v := .int .i64 a7) h
    simp only [List.setIfInBounds_toArray, List.set_cons_zero, List.set_cons_succ] at h
    replace h := set_blk (o := 7) (v := .int .i64 a8) h
    simp only [List.setIfInBounds_toArray, List.set_cons_zero, List.set_cons_succ] at h
    replace h := set_blk (o := 8) (v := .int .u64 a9) h
    simp only [List.setIfInBounds_toArray, List.set_cons_zero, List.set_cons_succ] at h
    exact h
  · have q : ∀ (X Y : World), Chg (fun k => k = g) X Y → ∀ o v, Chg (fun k => k = g) X (Y.setCell ⟨g, o, none⟩ v) := fun X Y h o v => h.trans (Chg.setCell (S := fun k => k = g) _ _ _ _ rfl) (fun j e => .inl e)
    exact q _ _ (q _ _ (q _ _ (q _ _ (q _ _ (q _ _ (q _ _ (q _ _ (q _ _ (Chg.refl _ _) _ _) _ _) _ _) _ _) _ _) _ _) _ _) _ _) _ _

set_option maxHeartbeats 1000000 in
theorem Made_any (B : Nat) (F : Nat → Prop) (s : St) (x : Int) (w : World) (h : TxAt w B F s) (hx : I64 x) :
    Calls Try.prog 72 #[.pointer (some ⟨B, 0, none⟩), .int .i64 x] w fun e w' => e = .returned (.tuple #[fV ((s.fresh x).getD fx0), .bool (s.fresh x).isSome]) ∧ Below w.heap.size w w' := by
  obtain ⟨M, v0, v4, hR⟩ := h
  obtain ⟨⟨c0, c1, c2, c3, c4, c5, c6⟩, fz⟩ := hR.cells
  have hL := (hR.fresh.keep ((Below.refl _ w).alloc (Nat.le_refl _) (.cells #[.int .i64 0, .int .i64 0, .int .i64 0, .int .i64 0, .bool false, .int .i64 0, .int .i64 0, .int .i64 0, .int .u64 0] (69 : Nat)))).look hx
  have hBlt := hR.lt _ hR.fB
  clear hR fz c0 c2 c3 c4 c5 c6
  obtain ⟨noted, fresh, n, depth, bad, gone, root, named⟩ := s
  simp only [] at *
  generalize (fresh x).isSome = ok at *
  generalize (fresh x).getD fx0 = f at *
  obtain ⟨⟨a1, a2, a3, a4, a5⟩, a6, a7, a8, a9⟩ := f
  simp only [fV, fE] at *
  go_enter Try.func72, Try.ntmps72
  go_wp2_with fail
  (try simp only [Exit.inBlock, Exit.then])
  refine bodyPost_ret (v := .tuple #[.agg #[.int .i64 a1, .int .i64 a2, .int .i64 a3, .int .i64 a4, .bool a5, .int .i64 a6, .int .i64 a7, .int .i64 a8, .int .u64 a9], .bool ok]) ?_ rfl ⟨rfl, ((Below.refl _ w).alloc (Nat.le_refl _) _).alloc (by simp) _⟩
  rw [results_cell_tmp rfl]
  clear hL c1
  go_simp

set_option maxHeartbeats 2000000 in
theorem Unmake_any (B : Nat) (F : Nat → Prop) (s : St) (x : Int) (w : World) (h : TxAt w B F s) (hx : I64 x) :
    Calls Try.prog 41 #[.pointer (some ⟨B, 0, none⟩), .int .i64 x] w fun e w' => e = .returned (.tuple #[fV ((s.fresh x).getD fx0), .bool (s.fresh x).isSome]) ∧ TxAt w' B F { s with fresh := delF s.fresh x } ∧ Chg F w w' := by
  have hb0 : Below w.heap.size w (w.alloc (.cells #[.int .i64 0, .int .i64 0, .int .i64 0, .int .i64 0, .bool false, .int .i64 0, .int .i64 0, .int .i64 0, .int .u64 0] (69 : Nat))) := (Below.refl _ w).alloc (Nat.le_refl _) _
  have hM := Made_any B F s x _ (h.keep hb0) hx
  obtain ⟨M, v0, v4, hR⟩ := h
  have hBlt := hR.lt _ hR.fB
  have hx' := Lib.hid hx
  clear hx
  generalize (s.fresh x).isSome = ok at *
  generalize (s.fresh x).getD fx0 = f at *
  obtain ⟨⟨a1, a2, a3, a4, a5⟩, a6, a7, a8, a9⟩ := f
  simp only [fV, fE] at *
  go_enter Try.func41, Try.ntmps41
  go_wp2_with (first
   | (go_at_call 72; refine hM.mono ?_; rintro e w1 ⟨rfl, hb⟩
      have hbA := hb0.trans (hb.mono hb0.size)
      have hb2 := hbA.trans ((Below.refl _ w1).alloc hbA.size (.cells #[.int .i64 a1, .int .i64 a2, .int .i64 a3, .int .i64 a4, .bool a5, .int .i64 a6, .int .i64 a7, .int .i64 a8, .int .u64 a9] (69 : Nat)))
      have hR2 := hR.chg (Chg.of_below (fun _ => False) hb2) (fun _ _ q => q)
      obtain ⟨⟨c0, c1, c2, c3, c4, c5, c6⟩, fz⟩ := hR2.cells
      obtain ⟨w2, hrun, hm2, hg2⟩ := hR2.fresh.drop hx'.out 0
      have hR3 := Lib.hid (hR2.mapTo hg2 hm2)
      have hMF := Lib.hid hR.fM
      have hML := Lib.hid (hR.lt _ hR.fM)
      have k1 : w1.heap[w.heap.size]? = some (.cells #[.int .i64 0, .int .i64 0, .int .i64 0, .int .i64 0, .bool false, .int .i64 0, .int .i64 0, .int .i64 0, .int .u64 0] (69 : Nat) (0, 0)) := (hb.block _ (by simp)).trans (World.alloc_heap_new w _)
      have hs1 : w.heap.size + 1 ≤ w1.heap.size := by have := hb.size; simpa using this
      have g1 : w2.heap[w.heap.size]? = some (.cells #[.int .i64 0, .int .i64 0, .int .i64 0, .int .i64 0, .bool false, .int .i64 0, .int .i64 0, .int .i64 0, .int .u64 0] (69 : Nat) (0, 0)) := (hg2.block _ (by simp; omega) (by simp; have := hML.out; omega)).trans ((Below.heap_alloc _ _ _ (by omega)).trans k1)
      have g2 : w2.heap[w1.heap.size]? = some (.cells #[.int .i64 a1, .int .i64 a2, .int .i64 a3, .int .i64 a4, .bool a5, .int .i64 a6, .int .i64 a7, .int .i64 a8, .int .u64 a9] (69 : Nat) (0, 0)) := (hg2.block _ (by simp) (by simp; have := hML.out; omega)).trans (World.alloc_heap_new w1 _)
      obtain ⟨⟨p0, p1, p2, p3, p4, p5, p6, p7, p8⟩, q0, q1, q2, q3, q4, q5, q6, q7, q8⟩ := blk9 g1
      obtain ⟨⟨r0, r1, r2, r3, r4, r5, r6, r7, r8⟩, _⟩ := blk9 g2
      have hch := Lib.hid ((Chg.of_below F hb2).trans (Chg.of_grown (S := F) hg2 (fun k e => by cases e; exact .inl hR.fM)) (fun j q => .inl q))
      have hlt := Lib.hid hR.lt
      clear hR hR2 hm2 hg2 hM hb2 hbA k1 g2 fz c0 c2 c3 c4 c5 c6 hb0 hb))
  (try simp only [Exit.inBlock, Exit.then])
  obtain ⟨w9, hw9, hb9, hc9⟩ := st9 g1 a1 a2 a3 a4 a5 a6 a7 a8 a9
  rw [← hw9]
  have hF1 := hR3.out.chg hc9 (fun k e q => by have := hlt.out k e; omega)
  have hF2 := hch.out.trans hc9 (fun j q => .inr (by omega))
  refine bodyPost_ret (v := .tuple #[.agg #[.int .i64 a1, .int .i64 a2, .int .i64 a3, .int .i64 a4, .bool a5, .int .i64 a6, .int .i64 a7, .int .i64 a8, .int .u64 a9], .bool ok]) ?_ rfl ⟨rfl, ⟨_, _, _, hF1⟩, hF2⟩
  rw [results_cell_tmp rfl]
  obtain ⟨⟨e0, e1, e2, e3, e4, e5, e6, e7, e8⟩, _⟩ := blk9 hb9
  clear hF1 hF2 hb9 hc9 hw9 p0 p1 p2 p3 p4 p5 p6 p7 p8 q0 q1 q2 q3 q4 q5 q6 q7 q8 r0 r1 r2 r3 r4 r5 r6 r7 r8 hR3 hch hlt g1 hrun c1
  go_simp

set_option maxRecDepth 10000 in
set_option maxHeartbeats 2000000 in
theorem Make_any (B : Nat) (F : Nat → Prop) (s : St) (f : Fx) (w : World) (h : TxAt w B F s) (hx : I64 f.2.1) (hn : s.n ≤ 1000000) :
    Calls Try.prog 40 #[.pointer (some ⟨B, 0, none⟩), fV f] w fun e w' => e = .returned (.tuple #[]) ∧ TxAt w' B F { s with fresh := putF s.fresh f.2.1 f, n := s.n + 1 } ∧ Chg F w w' := by
  obtain ⟨M, v0, v4, hR⟩ := h
  have hBlt := hR.lt _ hR.fB
  have hFM := Lib.hid hR.fM
  obtain ⟨⟨a1, a2, a3, a4, a5⟩, a6, a7, a8, a9⟩ := f
  have hb0 : Below w.heap.size w ((w.alloc (.cells #[.int .i64 a1, .int .i64 a2, .int .i64 a3, .int .i64 a4, .bool a5, .int .i64 a6, .int .i64 a7, .int .i64 a8, .int .u64 a9] (69 : Nat))).drew) := ((Below.refl _ w).alloc (Nat.le_refl _) _).drew
  have hR1 := hR.chg (Chg.of_below (fun _ => False) hb0) (fun _ _ q => q)
  obtain ⟨w2, hput, hm2, hg2⟩ := hR1.fresh.put (f := ((a1, a2, a3, a4, a5), a6, a7, a8, a9)) hx (by unfold maxLen; omega)
  have hR2 := Lib.hid (hR1.mapTo hg2 hm2)
  have hch := Lib.hid ((Chg.of_below F hb0).trans (Chg.of_grown (S := F) hg2 (fun k e => by cases e; exact .inl hR.fM)) (fun j q => .inl q))
  obtain ⟨⟨c0, c1, c2, c3, c4, c5, c6⟩, fz⟩ := hR1.cells
  have g0 : ((w.alloc (.cells #[.int .i64 a1, .int .i64 a2, .int .i64 a3, .int .i64 a4, .bool a5, .int .i64 a6, .int .i64 a7, .int .i64 a8, .int .u64 a9] (69 : Nat))).drew).heap[w.heap.size]? = some (.cells #[.int .i64 a1, .int .i64 a2, .int .i64 a3, .int .i64 a4, .bool a5, .int .i64 a6, .int .i64 a7, .int .i64 a8, .int .u64 a9] (69 : Nat) (0, 0)) := World.alloc_heap_new w _
  obtain ⟨⟨r0, r1, r2, r3, r4, r5, r6, r7, r8⟩, _⟩ := blk9 g0
  simp only [fV, fE] at *
  clear hR hR1 hm2 hg2 c0 c2 c3 c4 c5 c6 fz g0 hb0 hx hn
  go_enter Try.func40, Try.ntmps40
  go_wp2_with fail
  refine wp_region_tail (S := (fun w' => w' = (w.alloc (.cells #[.int .i64 a1, .int .i64 a2, .int .i64 a3, .int .i64 a4, .bool a5, .int .i64 a6, .int .i64 a7, .int .i64 a8, .int .u64 a9] (69 : Nat))).drew)) (n := 8) (by kernel_rfl) ?_ (fun hHeld hInv => ?_) (by decide)
  · (try dsimp only)
    all_goals rfl
  refine takeS 0 (v := ?_) (tailAt (by kernel_rfl)) hInv (by decide) rfl (by kernel_rfl) (by kernel_rfl) (by kernel_rfl) (fun _ _ _ h => h) (by rfl) (by assumption) ?_ (fun hInv2 => ?_)
  rotate_left
  · (intro w hSw; (try dsimp only at hSw); (subst hSw); go_simp <;> with_reducible rfl)
  clear hInv
  have hInv := hInv2
  clear hInv2
  try simp only [Act.put, List.setIfInBounds_toArray, List.set_cons_zero, List.set_cons_succ] at hInv ⊢
  refine takeS 1 (v := ?_) (tailAt (by kernel_rfl)) hInv (by decide) rfl (by kernel_rfl) (by kernel_rfl) (by kernel_rfl) (fun _ _ _ h => h) (by rfl) (by assumption) ?_ (fun hInv2 => ?_)
  rotate_left
  · (intro w hSw; (try dsimp only at hSw); (subst hSw); go_simp <;> with_reducible rfl)
  clear hInv
  have hInv := hInv2
  clear hInv2
  try simp only [Act.put, List.setIfInBounds_toArray, List.set_cons_zero, List.set_cons_succ] at hInv ⊢
  refine takeS 2 (v := ?_) (tailAt (by kernel_rfl)) hInv (by decide) rfl (by kernel_rfl) (by kernel_rfl) (by kernel_rfl) (fun _ _ _ h => h) (by rfl) (by assumption) ?_ (fun hInv2 => ?_)
  rotate_left
  · (intro w hSw; (try dsimp only at hSw); (subst hSw); go_simp <;> with_reducible rfl)
  clear hInv
  have hInv := hInv2
  clear hInv2
  try simp only [Act.put, List.setIfInBounds_toArray, List.set_cons_zero, List.set_cons_succ] at hInv ⊢
  refine takeS 3 (v := ?_) (tailAt (by kernel_rfl)) hInv (by decide) rfl (by kernel_rfl) (by kernel_rfl) (by kernel_rfl) (fun _ _ _ h => h) (by rfl) (by assumption) ?_ (fun hInv2 => ?_)
  rotate_left
  · (intro w hSw; (try dsimp only at hSw); (subst hSw); go_simp <;> with_reducible rfl)
  clear hInv
  have hInv := hInv2
  clear hInv2
  try simp only [Act.put, List.setIfInBounds_toArray, List.set_cons_zero, List.set_cons_succ] at hInv ⊢
  refine takeS 4 (v := ?_) (tailAt (by kernel_rfl)) hInv (by decide) rfl (by kernel_rfl) (by kernel_rfl) (by kernel_rfl) (fun _ _ _ h => h) (by rfl) (by assumption) ?_ (fun hInv2 => ?_)
  rotate_left
  · (intro w hSw; (try dsimp only at hSw); (subst hSw); go_simp <;> with_reducible rfl)
  clear hInv
  have hInv := hInv2
  clear hInv2
  try simp only [Act.put, List.setIfInBounds_toArray, List.set_cons_zero, List.set_cons_succ] at hInv ⊢
  refine takeS 5 (v := ?_) (tailAt (by kernel_rfl)) hInv (by decide) rfl (by kernel_rfl) (by kernel_rfl) (by kernel_rfl) (fun _ _ _ h => h) (by rfl) (by assumption) ?_ (fun hInv2 => ?_)
  rotate_left
  · (intro w hSw; (try dsimp only at hSw); (subst hSw); go_simp <;> with_reducible rfl)
  clear hInv
  have hInv := hInv2
  clear hInv2
  try simp only [Act.put, List.setIfInBounds_toArray, List.set_cons_zero, List.set_cons_succ] at hInv ⊢
  refine takeS 6 (v := ?_) (tailAt (by kernel_rfl)) hInv (by decide) rfl (by kernel_rfl) (by kernel_rfl) (by kernel_rfl) (fun _ _ _ h => h) (by rfl) (by assumption) ?_ (fun hInv2 => ?_)
  rotate_left
  · (intro w hSw; (try dsimp only at hSw); (subst hSw); go_simp <;> with_reducible rfl)
  clear hInv
  have hInv := hInv2
  clear hInv2
  try simp only [Act.put, List.setIfInBounds_toArray, List.set_cons_zero, List.set_cons_succ] at hInv ⊢
  refine takeS 7 (v := ?_) (tailAt (by kernel_rfl)) hInv (by decide) rfl (by kernel_rfl) (by kernel_rfl) (by kernel_rfl) (fun _ _ _ h => h) (by rfl) (by assumption) ?_ (fun hInv2 => ?_)
  rotate_left
  · (intro w hSw; (try dsimp only at hSw); (subst hSw); go_simp <;> with_reducible rfl)
  clear hInv
  have hInv := hInv2
  clear hInv2
  try simp only [Act.put, List.setIfInBounds_toArray, List.set_cons_zero, List.set_cons_succ] at hInv ⊢
  refine lastS 8 rfl (by decide) (by kernel_rfl) (fun K hK => ?_)
  go_simp
  refine hK.out _ _ ?_
  clear hK K
  refine wpAnyS_done (by kernel_rfl) ?_ _
  go_wp2_with fail
  go_end0
  exact ⟨rfl, ⟨_, _, _, hR2.out⟩, hch.out⟩
end Go.Proofs.Ytcemiclbeocnjaa
