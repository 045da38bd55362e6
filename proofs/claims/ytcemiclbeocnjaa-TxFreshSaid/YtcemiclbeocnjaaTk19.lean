/-
  Layer 20 (tx): whatever operation, done with both; are both alike?
-/
import Derived.Test.YtcemiclbeocnjaaTk18
import Derived.Test.YtcemiclbeocnjaaTk11
set_option linter.unusedVariables false
set_option linter.unusedSimpArgs false
namespace Go.Proofs.Ytcemiclbeocnjaa
open Go.RowKit Go.ChangeShapes Go.WideShapes Go.Deep Go.Maps

theorem do_any {w0 w : World} {B B2 k : Nat} (o : Ox) (h : DoP w0 B B2 k w) (hk : k ≤ 100) (hf : FewO o) :
    Calls Try.prog 32 #[.pointer (some ⟨B, 0, none⟩), .pointer (some ⟨B2, 0, none⟩), .agg (oE o).toArray] w fun e w' => e = .returned (.bool true) ∧ DoP w0 B B2 (k + 1) w' := by
  obtain ⟨F, s, G, r, hb, hr⟩ := h
  obtain ⟨kd, ⟨fr, mn⟩, ⟨a1, a2, a3, a4, a5⟩, at_, a7, sz, a9⟩ := o
  obtain ⟨f1, f2, f3, f4, f5, f6, f7, f8, f9⟩ := hf
  simp only [] at f1 f2 f3 f4 f5 f6 f7 f8 f9
  by_cases h9 : 9 ≤ kd
  · exact do_9 fr mn a1 a2 a3 a4 a5 at_ a7 sz a9 kd h9 hb hr hk f1 f2 f3 f4 f5 f6 f7 f8 f9
  have hc : kd = 0 ∨ kd = 1 ∨ kd = 2 ∨ kd = 3 ∨ kd = 4 ∨ kd = 5 ∨ kd = 6 ∨ kd = 7 ∨ kd = 8 := by omega
  rcases hc with rfl | rfl | rfl | rfl | rfl | rfl | rfl | rfl | rfl
  · exact do_0 fr mn a1 a2 a3 a4 a5 at_ a7 sz a9 hb hr hk f1 f2 f3 f4 f5 f6 f7 f8 f9
  · exact do_1 fr mn a1 a2 a3 a4 a5 at_ a7 sz a9 hb hr hk f1 f2 f3 f4 f5 f6 f7 f8 f9
  · exact do_2 fr mn a1 a2 a3 a4 a5 at_ a7 sz a9 hb hr hk f1 f2 f3 f4 f5 f6 f7 f8 f9
  · exact do_3 fr mn a1 a2 a3 a4 a5 at_ a7 sz a9 hb hr hk f1 f2 f3 f4 f5 f6 f7 f8 f9
  · exact do_4 fr mn a1 a2 a3 a4 a5 at_ a7 sz a9 hb hr hk f1 f2 f3 f4 f5 f6 f7 f8 f9
  · exact do_5 fr mn a1 a2 a3 a4 a5 at_ a7 sz a9 hb hr hk f1 f2 f3 f4 f5 f6 f7 f8 f9
  · exact do_6 fr mn a1 a2 a3 a4 a5 at_ a7 sz a9 hb hr hk f1 f2 f3 f4 f5 f6 f7 f8 f9
  · by_cases hin : at_ ∈ s.gone
    · exact do_7y fr mn a1 a2 a3 a4 a5 at_ a7 sz a9 hin hb hr hk f1 f2 f3 f4 f5 f6 f7 f8 f9
    · exact do_7n fr mn a1 a2 a3 a4 a5 at_ a7 sz a9 hin hb hr hk f1 f2 f3 f4 f5 f6 f7 f8 f9
  · exact do_8 fr mn a1 a2 a3 a4 a5 at_ a7 sz a9 hb hr hk f1 f2 f3 f4 f5 f6 f7 f8 f9
theorem DoP.bel {w0 w : World} {B B2 k : Nat} (h : DoP w0 B B2 k w) : Below w0.heap.size w0 w := by
  obtain ⟨F, s, G, r, hb, hr⟩ := h
  exact hb.tx.bel
theorem DoP.keep {w0 w w' : World} {B B2 k : Nat} (h : DoP w0 B B2 k w) (hb : Below w.heap.size w w') : DoP w0 B B2 k w' := by
  obtain ⟨F, s, G, r, h, hr⟩ := h
  exact ⟨F, s, G, r, h.keep hb, hr⟩
/-- both, new -/
theorem start_both {w0 w : World} {B : Nat} {F : Nat → Prop} (h : TxN w0 w B F st0) : DoP w0 B w.heap.size 0 (w.alloc (.cells #[.int .i64 0, .bool false, .slice none 0 0, .slice none 0 0, .slice none 0 0, .int .i64 0, .bool false] (60 : Nat))) := by
  have hb := (Below.refl _ w).alloc (Nat.le_refl _) (.cells #[.int .i64 0, .bool false, .slice none 0 0, .slice none 0 0, .slice none 0 0, .int .i64 0, .bool false] (60 : Nat))
  refine ⟨F, st0, fun k => k = w.heap.size, rf0, ⟨h.keep hb, ⟨.slice none 0 0, .slice none 0 0, .slice none 0 0, World.alloc_heap_new w _, OwnSp.nil _ _, OwnE.nil _ _ _ _ _, OwnE.nil _ _ _ _ _, rfl, (fun k e => by cases e), (fun k e => by cases e), (fun k e => by cases e), fun k e => by rw [e]; simp⟩, fun k e => by rw [e]; exact h.bel.size, fun k f g => by have := h.tx.lt k f; omega⟩, rel0⟩

attribute [local irreducible] wpList
set_option maxRecDepth 10000 in
set_option maxHeartbeats 8000000 in
theorem sameB_any {w0 w : World} {B B2 k : Nat} (x : Int) (h : DoP w0 B B2 k w) (hk : k ≤ 100) (hx : I64 x) :
    Calls Try.prog 33 #[.pointer (some ⟨B, 0, none⟩), .pointer (some ⟨B2, 0, none⟩), .int .i64 x] w fun e w' => e = .returned (.bool true) ∧ Below w.heap.size w w' := by
  obtain ⟨F, s, G, r, hb, hr⟩ := h
  obtain ⟨v2, v3, v4, hR⟩ := hb.rf
  have hGS := Lib.hid (hr.goodS (by omega))
  have hGR := Lib.hid (hr.goodR (by omega))
  have hLk := Lib.hid (hr.look x)
  have hNd := Lib.hid hr.noted
  have hNl := hr.ok.len
  have hgl := hr.gl
  have hml := hr.ml
  have hmd := Lib.hid hr.made
  have hgn := Lib.hid hr.gone
  have hn := hr.n
  have hCell := Lib.hid (fun (w' : World) (hb' : Below w.heap.size w w') => show w'.cell? ⟨B2, 5, none⟩ = some (.int .i64 s.root) ∧ w'.cell? ⟨B2, 6, none⟩ = some (.bool s.named) ∧ w'.cell? ⟨B2, 1, none⟩ = some (.bool s.bad) ∧ w'.cell? ⟨B2, 3, none⟩ = some v3 ∧ w'.cell? ⟨B2, 4, none⟩ = some v4 ∧ B2 < w'.heap.size from by
    have hR' := hR.keep hb'
    obtain ⟨c0, c1, c2, c3, c4, c5, c6⟩ := hR'.cells.1
    exact ⟨by rw [hr.root]; exact c5, by rw [hr.named]; exact c6, by rw [hr.bad]; exact c1, c3, c4, hR'.lt _ hR'.gB⟩)
  have hRK := Lib.hid (fun (w' : World) (hb' : Below w.heap.size w w') => hR.keep hb')
  have hBK := Lib.hid (fun (w' : World) (hb' : Below w.heap.size w w') => hb.keep hb')
  have hNm := named_N hb.tx
  obtain ⟨f, hfq⟩ : ∃ f, (s.fresh x).getD fx0 = f := ⟨_, rfl⟩
  obtain ⟨okx, hokq⟩ : ∃ b, (s.fresh x).isSome = b := ⟨_, rfl⟩
  have hRf := Lib.hid (show (lookF r.fresh x).getD fx0 = f ∧ (lookF r.fresh x).isSome = okx from by rw [hr.look x]; exact ⟨hfq, hokq⟩)
  have hSf := Lib.hid (show (s.fresh x).getD fx0 = f ∧ (s.fresh x).isSome = okx from ⟨hfq, hokq⟩)
  obtain ⟨⟨y1, y2, y3, y4, y5⟩, y6, y7, y8, y9⟩ := f
  obtain ⟨m4, hm4⟩ : ∃ m, r.gone.length = m := ⟨_, rfl⟩
  obtain ⟨A4, cap4, rfl, _⟩ := (hR.gone.el iE_len).form hm4
  obtain ⟨m3, hm3⟩ : ∃ m, r.fresh.length = m := ⟨_, rfl⟩
  obtain ⟨A3, cap3, rfl, _⟩ := (hR.fresh.el fE_len).form hm3
  obtain ⟨dv, hdv⟩ : ∃ d : Bool, decide (x ∈ s.gone) = d := ⟨_, rfl⟩
  have hdR := Lib.hid (show decide (x ∈ r.gone) = dv from by rw [← hr.gone]; exact hdv)
  replace hdv := Lib.hid hdv
  obtain ⟨sroot, hsr⟩ : ∃ a, s.root = a := ⟨_, rfl⟩
  obtain ⟨snam, hsn⟩ : ∃ a, s.named = a := ⟨_, rfl⟩
  obtain ⟨sbad, hsb⟩ : ∃ a, s.bad = a := ⟨_, rfl⟩
  rw [hsr, hsn, hsb] at hCell
  rw [hsr, hsn] at hNm
  replace hsb := Lib.hid hsb
  have t1 : (sroot == sroot) = true := by simp
  have t2 : (snam == snam) = true := by simp
  have t3 : (sbad == sbad) = true := by simp
  have t4 : (okx == okx) = true := by simp
  have t5 : (dv == dv) = true := by simp
  clear hsr hsn hfq hokq hm3 hm4 hR hb hr
  go_enter Try.func33, Try.ntmps33
  go_wp2_with (first
    | (go_at_call 46; refine hNm.mono ?_; rintro e w1 ⟨rfl, _, hb1⟩
       have hMd := Made_any B F s x w1 (hBK.out w1 hb1).tx.tx hx
       rw [hSf.out.1, hSf.out.2] at hMd
       simp only [fV, fE] at hMd
       clear hNm)
    | (go_at_call 72; refine hMd.mono ?_; rintro e w2 ⟨rfl, hb2⟩
       have hb2w := (hb1.trans (hb2.mono hb1.size)).trans ((Below.refl w.heap.size w2).alloc (by have := hb1.size; have := hb2.size; omega) (.cells #[.int .i64 y1, .int .i64 y2, .int .i64 y3, .int .i64 y4, .bool y5, .int .i64 y6, .int .i64 y7, .int .i64 y8, .int .u64 y9] (69 : Nat)))
       have hRM := refMade_any B2 G r x _ (hBK.out _ hb2w).rf (by omega)
       rw [hRf.out.1, hRf.out.2] at hRM
       simp only [fV, fE] at hRM
       clear hMd)
    | (go_at_call 73; refine hRM.mono ?_; rintro e w3 ⟨rfl, hb3⟩
       have g3 : w3.heap[w2.heap.size]? = some (.cells #[.int .i64 y1, .int .i64 y2, .int .i64 y3, .int .i64 y4, .bool y5, .int .i64 y6, .int .i64 y7, .int .i64 y8, .int .u64 y9] (69 : Nat) (0, 0)) := (hb3.block _ (by simp)).trans (World.alloc_heap_new w2 _)
       obtain ⟨⟨p0, p1, p2, p3, p4, p5, p6, p7, p8⟩, _⟩ := blk9 g3
       have hs3 : w2.heap.size < w3.heap.size := (Array.getElem?_eq_some_iff.1 g3).1
       have hb3w := hb2w.trans (hb3.mono hb2w.size)
       clear hRM g3 p0 p1 p2 p3 p4 p5 p6 p7 p8))
  obtain ⟨W, hWq⟩ : ∃ W, (w3.alloc (.cells #[.int .i64 y1, .int .i64 y2, .int .i64 y3, .int .i64 y4, .bool y5, .int .i64 y6, .int .i64 y7, .int .i64 y8, .int .u64 y9] (69 : Nat))).drew = W := ⟨_, rfl⟩
  have hbW : Below w.heap.size w W := by rw [← hWq]; exact (hb3w.alloc hb3w.size _).drew
  have gW2 : W.heap[w2.heap.size]? = some (.cells #[.int .i64 y1, .int .i64 y2, .int .i64 y3, .int .i64 y4, .bool y5, .int .i64 y6, .int .i64 y7, .int .i64 y8, .int .u64 y9] (69 : Nat) (0, 0)) := by rw [← hWq]; exact (Below.heap_alloc _ _ _ (by omega)).trans ((hb3.block _ (by simp)).trans (World.alloc_heap_new w2 _))
  have gW3 : W.heap[w3.heap.size]? = some (.cells #[.int .i64 y1, .int .i64 y2, .int .i64 y3, .int .i64 y4, .bool y5, .int .i64 y6, .int .i64 y7, .int .i64 y8, .int .u64 y9] (69 : Nat) (0, 0)) := by rw [← hWq]; exact World.alloc_heap_new w3 _
  have hCells := Lib.hid (fun (w' : World) (h : Below W.heap.size W w') => show (w'.cell? ⟨B2, 5, none⟩ = some (.int .i64 sroot) ∧ w'.cell? ⟨B2, 6, none⟩ = some (.bool snam) ∧ w'.cell? ⟨B2, 1, none⟩ = some (.bool sbad) ∧ w'.cell? ⟨B2, 3, none⟩ = some (.slice A3 m3 cap3) ∧ w'.cell? ⟨B2, 4, none⟩ = some (.slice A4 m4 cap4) ∧ B2 < w'.heap.size) ∧
      (w'.cell? ⟨w2.heap.size, 0, none⟩ = some (.int .i64 y1) ∧ w'.cell? ⟨w2.heap.size, 1, none⟩ = some (.int .i64 y2) ∧ w'.cell? ⟨w2.heap.size, 2, none⟩ = some (.int .i64 y3) ∧ w'.cell? ⟨w2.heap.size, 3, none⟩ = some (.int .i64 y4) ∧ w'.cell? ⟨w2.heap.size, 4, none⟩ = some (.bool y5) ∧ w'.cell? ⟨w2.heap.size, 5, none⟩ = some (.int .i64 y6) ∧ w'.cell? ⟨w2.heap.size, 6, none⟩ = some (.int .i64 y7) ∧ w'.cell? ⟨w2.heap.size, 7, none⟩ = some (.int .i64 y8) ∧ w'.cell? ⟨w2.heap.size, 8, none⟩ = some (.int .u64 y9)) ∧
      (w'.cell? ⟨w3.heap.size, 0, none⟩ = some (.int .i64 y1) ∧ w'.cell? ⟨w3.heap.size, 1, none⟩ = some (.int .i64 y2) ∧ w'.cell? ⟨w3.heap.size, 2, none⟩ = some (.int .i64 y3) ∧ w'.cell? ⟨w3.heap.size, 3, none⟩ = some (.int .i64 y4) ∧ w'.cell? ⟨w3.heap.size, 4, none⟩ = some (.bool y5) ∧ w'.cell? ⟨w3.heap.size, 5, none⟩ = some (.int .i64 y6) ∧ w'.cell? ⟨w3.heap.size, 6, none⟩ = some (.int .i64 y7) ∧ w'.cell? ⟨w3.heap.size, 7, none⟩ = some (.int .i64 y8) ∧ w'.cell? ⟨w3.heap.size, 8, none⟩ = some (.int .u64 y9)) from
    ⟨hCell.out w' (hbW.trans (h.mono hbW.size)), (blk9 ((h.block _ (Array.getElem?_eq_some_iff.1 gW2).1).trans gW2)).1, (blk9 ((h.block _ (Array.getElem?_eq_some_iff.1 gW3).1).trans gW3)).1⟩)
  have hSp := spoilt_N (hBK.out _ hbW).tx
  rw [hsb.out] at hSp
  have hbK := Below.refl W.heap.size W
  clear gW2 gW3 hb3w hb2w hb3 hb1 hb2
  refine wp_region_held_drew (S := (fun w' => Below W.heap.size W w')) (by kernel_rfl) ?_ (fun hHeld => ?_)
  · (try dsimp only)
    (first | exact hbK | (rw [hWq]; exact hbK))
  rw [hWq]
  clear hWq
  refine takeL 0 (v := ?_) rfl (by kernel_rfl) (by kernel_rfl) (by kernel_rfl) (fun _ _ _ h => h) (by rfl) (by assumption) ?_ ?_
  rotate_left
  · (intro w hSw; (try dsimp only at hSw); obtain ⟨⟨c5, c6, c1, c3, c4, cB⟩, ⟨p0, p1, p2, p3, p4, p5, p6, p7, p8⟩, q0, q1, q2, q3, q4, q5, q6, q7, q8⟩ := hCells.out w hSw; go_simp <;> with_reducible rfl)
  try simp only [Act.put, List.setIfInBounds_toArray, List.set_cons_zero, List.set_cons_succ]
  refine takeL 1 (v := ?_) rfl (by kernel_rfl) (by kernel_rfl) (by kernel_rfl) (fun _ _ _ h => h) (by rfl) (by assumption) ?_ ?_
  rotate_left
  · (intro w hSw; (try dsimp only at hSw); obtain ⟨⟨c5, c6, c1, c3, c4, cB⟩, ⟨p0, p1, p2, p3, p4, p5, p6, p7, p8⟩, q0, q1, q2, q3, q4, q5, q6, q7, q8⟩ := hCells.out w hSw; go_simp <;> with_reducible rfl)
  try simp only [Act.put, List.setIfInBounds_toArray, List.set_cons_zero, List.set_cons_succ]
  refine takeL 2 (v := ?_) rfl (by kernel_rfl) (by kernel_rfl) (by kernel_rfl) (fun _ _ _ h => h) (by rfl) (by assumption) ?_ ?_
  rotate_left
  · (intro w hSw; (try dsimp only at hSw); obtain ⟨⟨c5, c6, c1, c3, c4, cB⟩, ⟨p0, p1, p2, p3, p4, p5, p6, p7, p8⟩, q0, q1, q2, q3, q4, q5, q6, q7, q8⟩ := hCells.out w hSw; go_simp <;> with_reducible rfl)
  try simp only [Act.put, List.setIfInBounds_toArray, List.set_cons_zero, List.set_cons_succ]
  refine takeL 3 (v := ?_) rfl (by kernel_rfl) (by kernel_rfl) (by kernel_rfl) (fun _ _ _ h => h) (by rfl) (by assumption) ?_ ?_
  rotate_left
  · (intro w hSw; (try dsimp only at hSw); obtain ⟨⟨c5, c6, c1, c3, c4, cB⟩, ⟨p0, p1, p2, p3, p4, p5, p6, p7, p8⟩, q0, q1, q2, q3, q4, q5, q6, q7, q8⟩ := hCells.out w hSw; go_simp <;> with_reducible rfl)
  try simp only [Act.put, List.setIfInBounds_toArray, List.set_cons_zero, List.set_cons_succ]
  refine takeL 4 (v := ?_) rfl (by kernel_rfl) (by kernel_rfl) (by kernel_rfl) (fun _ _ _ h => h) (by rfl) (by assumption) ?_ ?_
  rotate_left
  · (intro w hSw; (try dsimp only at hSw); obtain ⟨⟨c5, c6, c1, c3, c4, cB⟩, ⟨p0, p1, p2, p3, p4, p5, p6, p7, p8⟩, q0, q1, q2, q3, q4, q5, q6, q7, q8⟩ := hCells.out w hSw; go_simp <;> with_reducible rfl)
  try simp only [Act.put, List.setIfInBounds_toArray, List.set_cons_zero, List.set_cons_succ]
  refine takeL 5 (v := ?_) rfl (by kernel_rfl) (by kernel_rfl) (by kernel_rfl) (fun _ _ _ h => h) (by rfl) (by assumption) ?_ ?_
  rotate_left
  · (intro w hSw; (try dsimp only at hSw); obtain ⟨⟨c5, c6, c1, c3, c4, cB⟩, ⟨p0, p1, p2, p3, p4, p5, p6, p7, p8⟩, q0, q1, q2, q3, q4, q5, q6, q7, q8⟩ := hCells.out w hSw; go_simp <;> with_reducible rfl)
  try simp only [Act.put, List.setIfInBounds_toArray, List.set_cons_zero, List.set_cons_succ]
  refine takeL 6 (v := ?_) rfl (by kernel_rfl) (by kernel_rfl) (by kernel_rfl) (fun _ _ _ h => h) (by rfl) (by assumption) ?_ ?_
  rotate_left
  · (intro w hSw; (try dsimp only at hSw); obtain ⟨⟨c5, c6, c1, c3, c4, cB⟩, ⟨p0, p1, p2, p3, p4, p5, p6, p7, p8⟩, q0, q1, q2, q3, q4, q5, q6, q7, q8⟩ := hCells.out w hSw; go_simp <;> with_reducible rfl)
  try simp only [Act.put, List.setIfInBounds_toArray, List.set_cons_zero, List.set_cons_succ]
  refine takeL 7 (v := ?_) rfl (by kernel_rfl) (by kernel_rfl) (by kernel_rfl) (fun _ _ _ h => h) (by rfl) (by assumption) ?_ ?_
  rotate_left
  · (intro w hSw; (try dsimp only at hSw); obtain ⟨⟨c5, c6, c1, c3, c4, cB⟩, ⟨p0, p1, p2, p3, p4, p5, p6, p7, p8⟩, q0, q1, q2, q3, q4, q5, q6, q7, q8⟩ := hCells.out w hSw; go_simp <;> with_reducible rfl)
  try simp only [Act.put, List.setIfInBounds_toArray, List.set_cons_zero, List.set_cons_succ]
  refine takeL 8 (v := ?_) rfl (by kernel_rfl) (by kernel_rfl) (by kernel_rfl) (fun _ _ _ h => h) (by rfl) (by assumption) ?_ ?_
  rotate_left
  · (intro w hSw; (try dsimp only at hSw); obtain ⟨⟨c5, c6, c1, c3, c4, cB⟩, ⟨p0, p1, p2, p3, p4, p5, p6, p7, p8⟩, q0, q1, q2, q3, q4, q5, q6, q7, q8⟩ := hCells.out w hSw; go_simp <;> with_reducible rfl)
  try simp only [Act.put, List.setIfInBounds_toArray, List.set_cons_zero, List.set_cons_succ]
  refine takeL 9 (v := ?_) rfl (by kernel_rfl) (by kernel_rfl) (by kernel_rfl) (fun _ _ _ h => h) (by rfl) (by assumption) ?_ ?_
  rotate_left
  · (intro w hSw; (try dsimp only at hSw); obtain ⟨⟨c5, c6, c1, c3, c4, cB⟩, ⟨p0, p1, p2, p3, p4, p5, p6, p7, p8⟩, q0, q1, q2, q3, q4, q5, q6, q7, q8⟩ := hCells.out w hSw; go_simp <;> with_reducible rfl)
  try simp only [Act.put, List.setIfInBounds_toArray, List.set_cons_zero, List.set_cons_succ]
  refine takeL 10 (v := ?_) rfl (by kernel_rfl) (by kernel_rfl) (by kernel_rfl) (fun _ _ _ h => h) (by rfl) (by assumption) ?_ ?_
  rotate_left
  · (intro w hSw; (try dsimp only at hSw); obtain ⟨⟨c5, c6, c1, c3, c4, cB⟩, ⟨p0, p1, p2, p3, p4, p5, p6, p7, p8⟩, q0, q1, q2, q3, q4, q5, q6, q7, q8⟩ := hCells.out w hSw; go_simp <;> with_reducible rfl)
  try simp only [Act.put, List.setIfInBounds_toArray, List.set_cons_zero, List.set_cons_succ]
  refine takeL 11 (v := ?_) rfl (by kernel_rfl) (by kernel_rfl) (by kernel_rfl) (fun _ _ _ h => h) (by rfl) (by assumption) ?_ ?_
  rotate_left
  · (intro w hSw; (try dsimp only at hSw); obtain ⟨⟨c5, c6, c1, c3, c4, cB⟩, ⟨p0, p1, p2, p3, p4, p5, p6, p7, p8⟩, q0, q1, q2, q3, q4, q5, q6, q7, q8⟩ := hCells.out w hSw; go_simp <;> with_reducible rfl)
  try simp only [Act.put, List.setIfInBounds_toArray, List.set_cons_zero, List.set_cons_succ]
  refine takeL 12 (v := ?_) rfl (by kernel_rfl) (by kernel_rfl) (by kernel_rfl) (fun _ _ _ h => h) (by rfl) (by assumption) ?_ ?_
  rotate_left
  · (intro w hSw; (try dsimp only at hSw); obtain ⟨⟨c5, c6, c1, c3, c4, cB⟩, ⟨p0, p1, p2, p3, p4, p5, p6, p7, p8⟩, q0, q1, q2, q3, q4, q5, q6, q7, q8⟩ := hCells.out w hSw; go_simp <;> with_reducible rfl)
  try simp only [Act.put, List.setIfInBounds_toArray, List.set_cons_zero, List.set_cons_succ]
  refine takeL 13 (v := ?_) rfl (by kernel_rfl) (by kernel_rfl) (by kernel_rfl) (fun _ _ _ h => h) (by rfl) (by assumption) ?_ ?_
  rotate_left
  · (intro w hSw; (try dsimp only at hSw); obtain ⟨⟨c5, c6, c1, c3, c4, cB⟩, ⟨p0, p1, p2, p3, p4, p5, p6, p7, p8⟩, q0, q1, q2, q3, q4, q5, q6, q7, q8⟩ := hCells.out w hSw; go_simp <;> with_reducible rfl)
  try simp only [Act.put, List.setIfInBounds_toArray, List.set_cons_zero, List.set_cons_succ]
  refine takeL 14 (v := ?_) rfl (by kernel_rfl) (by kernel_rfl) (by kernel_rfl) (fun _ _ _ h => h) (by rfl) (by assumption) ?_ ?_
  rotate_left
  · (intro w hSw; (try dsimp only at hSw); obtain ⟨⟨c5, c6, c1, c3, c4, cB⟩, ⟨p0, p1, p2, p3, p4, p5, p6, p7, p8⟩, q0, q1, q2, q3, q4, q5, q6, q7, q8⟩ := hCells.out w hSw; go_simp <;> with_reducible rfl)
  try simp only [Act.put, List.setIfInBounds_toArray, List.set_cons_zero, List.set_cons_succ]
  refine takeL 15 (v := ?_) rfl (by kernel_rfl) (by kernel_rfl) (by kernel_rfl) (fun _ _ _ h => h) (by rfl) (by assumption) ?_ ?_
  rotate_left
  · (intro w hSw; (try dsimp only at hSw); obtain ⟨⟨c5, c6, c1, c3, c4, cB⟩, ⟨p0, p1, p2, p3, p4, p5, p6, p7, p8⟩, q0, q1, q2, q3, q4, q5, q6, q7, q8⟩ := hCells.out w hSw; go_simp <;> with_reducible rfl)
  try simp only [Act.put, List.setIfInBounds_toArray, List.set_cons_zero, List.set_cons_succ]
  refine takeL 16 (v := ?_) rfl (by kernel_rfl) (by kernel_rfl) (by kernel_rfl) (fun _ _ _ h => h) (by rfl) (by assumption) ?_ ?_
  rotate_left
  · (intro w hSw; (try dsimp only at hSw); obtain ⟨⟨c5, c6, c1, c3, c4, cB⟩, ⟨p0, p1, p2, p3, p4, p5, p6, p7, p8⟩, q0, q1, q2, q3, q4, q5, q6, q7, q8⟩ := hCells.out w hSw; go_simp <;> with_reducible rfl)
  try simp only [Act.put, List.setIfInBounds_toArray, List.set_cons_zero, List.set_cons_succ]
  refine takeL 17 (v := ?_) rfl (by kernel_rfl) (by kernel_rfl) (by kernel_rfl) (fun _ _ _ h => h) (by rfl) (by assumption) ?_ ?_
  rotate_left
  · (intro w hSw; (try dsimp only at hSw); obtain ⟨⟨c5, c6, c1, c3, c4, cB⟩, ⟨p0, p1, p2, p3, p4, p5, p6, p7, p8⟩, q0, q1, q2, q3, q4, q5, q6, q7, q8⟩ := hCells.out w hSw; go_simp <;> with_reducible rfl)
  try simp only [Act.put, List.setIfInBounds_toArray, List.set_cons_zero, List.set_cons_succ]
  refine takeL 18 (v := ?_) rfl (by kernel_rfl) (by kernel_rfl) (by kernel_rfl) (fun _ _ _ h => h) (by rfl) (by assumption) ?_ ?_
  rotate_left
  · (intro w hSw; (try dsimp only at hSw); obtain ⟨⟨c5, c6, c1, c3, c4, cB⟩, ⟨p0, p1, p2, p3, p4, p5, p6, p7, p8⟩, q0, q1, q2, q3, q4, q5, q6, q7, q8⟩ := hCells.out w hSw; go_simp <;> with_reducible rfl)
  try simp only [Act.put, List.setIfInBounds_toArray, List.set_cons_zero, List.set_cons_succ]
  refine takeL 19 (v := ?_) rfl (by kernel_rfl) (by kernel_rfl) (by kernel_rfl) (fun _ _ _ h => h) (by rfl) (by assumption) ?_ ?_
  rotate_left
  · (intro w hSw; (try dsimp only at hSw); obtain ⟨⟨c5, c6, c1, c3, c4, cB⟩, ⟨p0, p1, p2, p3, p4, p5, p6, p7, p8⟩, q0, q1, q2, q3, q4, q5, q6, q7, q8⟩ := hCells.out w hSw; go_simp <;> with_reducible rfl)
  try simp only [Act.put, List.setIfInBounds_toArray, List.set_cons_zero, List.set_cons_succ]
  refine takeL 20 (v := ?_) rfl (by kernel_rfl) (by kernel_rfl) (by kernel_rfl) (fun _ _ _ h => h) (by rfl) (by assumption) ?_ ?_
  rotate_left
  · (intro w hSw; (try dsimp only at hSw); obtain ⟨⟨c5, c6, c1, c3, c4, cB⟩, ⟨p0, p1, p2, p3, p4, p5, p6, p7, p8⟩, q0, q1, q2, q3, q4, q5, q6, q7, q8⟩ := hCells.out w hSw; go_simp <;> with_reducible rfl)
  try simp only [Act.put, List.setIfInBounds_toArray, List.set_cons_zero, List.set_cons_succ]
  refine takeL 21 (v := ?_) rfl (by kernel_rfl) (by kernel_rfl) (by kernel_rfl) (fun _ _ _ h => h) (by rfl) (by assumption) ?_ ?_
  rotate_left
  · (intro w hSw; (try dsimp only at hSw); obtain ⟨⟨c5, c6, c1, c3, c4, cB⟩, ⟨p0, p1, p2, p3, p4, p5, p6, p7, p8⟩, q0, q1, q2, q3, q4, q5, q6, q7, q8⟩ := hCells.out w hSw; go_simp <;> with_reducible rfl)
  try simp only [Act.put, List.setIfInBounds_toArray, List.set_cons_zero, List.set_cons_succ]
  refine takeL 22 (v := ?_) rfl (by kernel_rfl) (by kernel_rfl) (by kernel_rfl) (fun _ _ _ h => h) (by rfl) (by assumption) ?_ ?_
  rotate_left
  · (intro w hSw; (try dsimp only at hSw); obtain ⟨⟨c5, c6, c1, c3, c4, cB⟩, ⟨p0, p1, p2, p3, p4, p5, p6, p7, p8⟩, q0, q1, q2, q3, q4, q5, q6, q7, q8⟩ := hCells.out w hSw; go_simp <;> with_reducible rfl)
  try simp only [Act.put, List.setIfInBounds_toArray, List.set_cons_zero, List.set_cons_succ]
  refine takeL 23 (v := ?_) rfl (by kernel_rfl) (by kernel_rfl) (by kernel_rfl) (fun _ _ _ h => h) (by rfl) (by assumption) ?_ ?_
  rotate_left
  · (intro w hSw; (try dsimp only at hSw); obtain ⟨⟨c5, c6, c1, c3, c4, cB⟩, ⟨p0, p1, p2, p3, p4, p5, p6, p7, p8⟩, q0, q1, q2, q3, q4, q5, q6, q7, q8⟩ := hCells.out w hSw; go_simp <;> with_reducible rfl)
  try simp only [Act.put, List.setIfInBounds_toArray, List.set_cons_zero, List.set_cons_succ]
  refine takeL 24 (v := ?_) rfl (by kernel_rfl) (by kernel_rfl) (by kernel_rfl) (fun _ _ _ h => h) (by rfl) (by assumption) ?_ ?_
  rotate_left
  · (intro w hSw; (try dsimp only at hSw); obtain ⟨⟨c5, c6, c1, c3, c4, cB⟩, ⟨p0, p1, p2, p3, p4, p5, p6, p7, p8⟩, q0, q1, q2, q3, q4, q5, q6, q7, q8⟩ := hCells.out w hSw; go_simp <;> with_reducible rfl)
  try simp only [Act.put, List.setIfInBounds_toArray, List.set_cons_zero, List.set_cons_succ]
  refine takeL 25 (v := ?_) rfl (by kernel_rfl) (by kernel_rfl) (by kernel_rfl) (fun _ _ _ h => h) (by rfl) (by assumption) ?_ ?_
  rotate_left
  · (intro w hSw; (try dsimp only at hSw); obtain ⟨⟨c5, c6, c1, c3, c4, cB⟩, ⟨p0, p1, p2, p3, p4, p5, p6, p7, p8⟩, q0, q1, q2, q3, q4, q5, q6, q7, q8⟩ := hCells.out w hSw; go_simp <;> with_reducible rfl)
  try simp only [Act.put, List.setIfInBounds_toArray, List.set_cons_zero, List.set_cons_succ]
  refine takeL 27 (v := ?_) rfl (by kernel_rfl) (by kernel_rfl) (by kernel_rfl) (fun _ _ _ h => h) (by rfl) (by assumption) ?_ ?_
  rotate_left
  · (intro w hSw; (try dsimp only at hSw); obtain ⟨⟨c5, c6, c1, c3, c4, cB⟩, ⟨p0, p1, p2, p3, p4, p5, p6, p7, p8⟩, q0, q1, q2, q3, q4, q5, q6, q7, q8⟩ := hCells.out w hSw; go_simp <;> with_reducible rfl)
  try simp only [Act.put, List.setIfInBounds_toArray, List.set_cons_zero, List.set_cons_succ]
  refine takeL 28 (v := ?_) rfl (by kernel_rfl) (by kernel_rfl) (by kernel_rfl) (fun _ _ _ h => h) (by rfl) (by assumption) ?_ ?_
  rotate_left
  · (intro w hSw; (try dsimp only at hSw); obtain ⟨⟨c5, c6, c1, c3, c4, cB⟩, ⟨p0, p1, p2, p3, p4, p5, p6, p7, p8⟩, q0, q1, q2, q3, q4, q5, q6, q7, q8⟩ := hCells.out w hSw; go_simp <;> with_reducible rfl)
  try simp only [Act.put, List.setIfInBounds_toArray, List.set_cons_zero, List.set_cons_succ]
  refine takeL 29 (v := ?_) rfl (by kernel_rfl) (by kernel_rfl) (by kernel_rfl) (fun _ _ _ h => h) (by rfl) (by assumption) ?_ ?_
  rotate_left
  · (intro w hSw; (try dsimp only at hSw); obtain ⟨⟨c5, c6, c1, c3, c4, cB⟩, ⟨p0, p1, p2, p3, p4, p5, p6, p7, p8⟩, q0, q1, q2, q3, q4, q5, q6, q7, q8⟩ := hCells.out w hSw; go_simp <;> with_reducible rfl)
  try simp only [Act.put, List.setIfInBounds_toArray, List.set_cons_zero, List.set_cons_succ]
  refine takeL 30 (v := ?_) rfl (by kernel_rfl) (by kernel_rfl) (by kernel_rfl) (fun _ _ _ h => h) (by rfl) (by assumption) ?_ ?_
  rotate_left
  · (intro w hSw; (try dsimp only at hSw); obtain ⟨⟨c5, c6, c1, c3, c4, cB⟩, ⟨p0, p1, p2, p3, p4, p5, p6, p7, p8⟩, q0, q1, q2, q3, q4, q5, q6, q7, q8⟩ := hCells.out w hSw; go_simp <;> with_reducible rfl)
  try simp only [Act.put, List.setIfInBounds_toArray, List.set_cons_zero, List.set_cons_succ]
  refine oneL 26 rfl (by kernel_rfl) (fun K hK => ?_)
  go_simp
  ((with_reducible refine hSp.mono ?_); rintro e w4 ⟨rfl, rfl⟩; have hFd := Freed_any B F s x _ (hBK.out _ hbW).tx.tx (by omega); rw [hdv.out] at hFd; clear hSp)
  refine hK.out _ _ ?_ (fun hHeld2 => ?_)
  · (try dsimp only)
    (first | exact hbK | (rw [hWq]; exact hbK))
  clear hK K hHeld
  have hHeld := hHeld2
  clear hHeld2
  try simp only [Act.put, List.setIfInBounds_toArray, List.set_cons_zero, List.set_cons_succ]
  refine takeL 31 (v := ?_) rfl (by kernel_rfl) (by kernel_rfl) (by kernel_rfl) (fun _ _ _ h => h) (by rfl) (by assumption) ?_ ?_
  rotate_left
  · (intro w hSw; (try dsimp only at hSw); obtain ⟨⟨c5, c6, c1, c3, c4, cB⟩, ⟨p0, p1, p2, p3, p4, p5, p6, p7, p8⟩, q0, q1, q2, q3, q4, q5, q6, q7, q8⟩ := hCells.out w hSw; go_simp <;> with_reducible rfl)
  try simp only [Act.put, List.setIfInBounds_toArray, List.set_cons_zero, List.set_cons_succ]
  refine takeL 32 (v := ?_) rfl (by kernel_rfl) (by kernel_rfl) (by kernel_rfl) (fun _ _ _ h => h) (by rfl) (by assumption) ?_ ?_
  rotate_left
  · (intro w hSw; (try dsimp only at hSw); obtain ⟨⟨c5, c6, c1, c3, c4, cB⟩, ⟨p0, p1, p2, p3, p4, p5, p6, p7, p8⟩, q0, q1, q2, q3, q4, q5, q6, q7, q8⟩ := hCells.out w hSw; go_simp <;> with_reducible rfl)
  try simp only [Act.put, List.setIfInBounds_toArray, List.set_cons_zero, List.set_cons_succ]
  refine takeL 33 (v := ?_) rfl (by kernel_rfl) (by kernel_rfl) (by kernel_rfl) (fun _ _ _ h => h) (by rfl) (by assumption) ?_ ?_
  rotate_left
  · (intro w hSw; (try dsimp only at hSw); obtain ⟨⟨c5, c6, c1, c3, c4, cB⟩, ⟨p0, p1, p2, p3, p4, p5, p6, p7, p8⟩, q0, q1, q2, q3, q4, q5, q6, q7, q8⟩ := hCells.out w hSw; go_simp <;> with_reducible rfl)
  try simp only [Act.put, List.setIfInBounds_toArray, List.set_cons_zero, List.set_cons_succ]
  refine takeL 34 (v := ?_) rfl (by kernel_rfl) (by kernel_rfl) (by kernel_rfl) (fun _ _ _ h => h) (by rfl) (by assumption) ?_ ?_
  rotate_left
  · (intro w hSw; (try dsimp only at hSw); obtain ⟨⟨c5, c6, c1, c3, c4, cB⟩, ⟨p0, p1, p2, p3, p4, p5, p6, p7, p8⟩, q0, q1, q2, q3, q4, q5, q6, q7, q8⟩ := hCells.out w hSw; go_simp <;> with_reducible rfl)
  try simp only [Act.put, List.setIfInBounds_toArray, List.set_cons_zero, List.set_cons_succ]
  refine takeL 35 (v := ?_) rfl (by kernel_rfl) (by kernel_rfl) (by kernel_rfl) (fun _ _ _ h => h) (by rfl) (by assumption) ?_ ?_
  rotate_left
  · (intro w hSw; (try dsimp only at hSw); obtain ⟨⟨c5, c6, c1, c3, c4, cB⟩, ⟨p0, p1, p2, p3, p4, p5, p6, p7, p8⟩, q0, q1, q2, q3, q4, q5, q6, q7, q8⟩ := hCells.out w hSw; go_simp <;> with_reducible rfl)
  try simp only [Act.put, List.setIfInBounds_toArray, List.set_cons_zero, List.set_cons_succ]
  refine takeL 37 (v := ?_) rfl (by kernel_rfl) (by kernel_rfl) (by kernel_rfl) (fun _ _ _ h => h) (by rfl) (by assumption) ?_ ?_
  rotate_left
  · (intro w hSw; (try dsimp only at hSw); obtain ⟨⟨c5, c6, c1, c3, c4, cB⟩, ⟨p0, p1, p2, p3, p4, p5, p6, p7, p8⟩, q0, q1, q2, q3, q4, q5, q6, q7, q8⟩ := hCells.out w hSw; go_simp <;> with_reducible rfl)
  try simp only [Act.put, List.setIfInBounds_toArray, List.set_cons_zero, List.set_cons_succ]
  refine takeL 38 (v := ?_) rfl (by kernel_rfl) (by kernel_rfl) (by kernel_rfl) (fun _ _ _ h => h) (by rfl) (by assumption) ?_ ?_
  rotate_left
  · (intro w hSw; (try dsimp only at hSw); obtain ⟨⟨c5, c6, c1, c3, c4, cB⟩, ⟨p0, p1, p2, p3, p4, p5, p6, p7, p8⟩, q0, q1, q2, q3, q4, q5, q6, q7, q8⟩ := hCells.out w hSw; go_simp <;> with_reducible rfl)
  try simp only [Act.put, List.setIfInBounds_toArray, List.set_cons_zero, List.set_cons_succ]
  refine oneL 36 rfl (by kernel_rfl) (fun K hK => ?_)
  go_simp
  ((with_reducible refine hFd.mono ?_); rintro e w5 ⟨rfl, hb5⟩; replace hbK := hb5; have hb5w := hbW.trans (hb5.mono hbW.size); have hRF := refFreed_any B2 G r x w5 (hBK.out _ hb5w).rf (by rw [← hgn.out]; omega); rw [hdR.out] at hRF; clear hFd)
  refine hK.out _ _ ?_ (fun hHeld2 => ?_)
  · (try dsimp only)
    (first | exact hbK | (rw [hWq]; exact hbK))
  clear hK K hHeld
  have hHeld := hHeld2
  clear hHeld2
  try simp only [Act.put, List.setIfInBounds_toArray, List.set_cons_zero, List.set_cons_succ]
  refine oneL 39 rfl (by kernel_rfl) (fun K hK => ?_)
  go_simp
  ((with_reducible refine hRF.mono ?_); rintro e w6 ⟨rfl, hb6⟩; have hb6w := hb5w.trans (hb6.mono hb5w.size); replace hbK := hbK.trans (hb6.mono hbK.size); have hGn := Gone_any B F s w6 (hBK.out _ hb6w).tx.tx (by omega); clear hRF)
  refine hK.out _ _ ?_ (fun hHeld2 => ?_)
  · (try dsimp only)
    (first | exact hbK | (rw [hWq]; exact hbK))
  clear hK K hHeld
  have hHeld := hHeld2
  clear hHeld2
  try simp only [Act.put, List.setIfInBounds_toArray, List.set_cons_zero, List.set_cons_succ]
  refine takeL 40 (v := ?_) rfl (by kernel_rfl) (by kernel_rfl) (by kernel_rfl) (fun _ _ _ h => h) (by rfl) (by assumption) ?_ ?_
  rotate_left
  · (intro w hSw; (try dsimp only at hSw); obtain ⟨⟨c5, c6, c1, c3, c4, cB⟩, ⟨p0, p1, p2, p3, p4, p5, p6, p7, p8⟩, q0, q1, q2, q3, q4, q5, q6, q7, q8⟩ := hCells.out w hSw; go_simp <;> with_reducible rfl)
  try simp only [Act.put, List.setIfInBounds_toArray, List.set_cons_zero, List.set_cons_succ]
  refine takeL 41 (v := ?_) rfl (by kernel_rfl) (by kernel_rfl) (by kernel_rfl) (fun _ _ _ h => h) (by rfl) (by assumption) ?_ ?_
  rotate_left
  · (intro w hSw; (try dsimp only at hSw); obtain ⟨⟨c5, c6, c1, c3, c4, cB⟩, ⟨p0, p1, p2, p3, p4, p5, p6, p7, p8⟩, q0, q1, q2, q3, q4, q5, q6, q7, q8⟩ := hCells.out w hSw; go_simp <;> with_reducible rfl)
  try simp only [Act.put, List.setIfInBounds_toArray, List.set_cons_zero, List.set_cons_succ]
  refine takeL 42 (v := ?_) rfl (by kernel_rfl) (by kernel_rfl) (by kernel_rfl) (fun _ _ _ h => h) (by rfl) (by assumption) ?_ ?_
  rotate_left
  · (intro w hSw; (try dsimp only at hSw); obtain ⟨⟨c5, c6, c1, c3, c4, cB⟩, ⟨p0, p1, p2, p3, p4, p5, p6, p7, p8⟩, q0, q1, q2, q3, q4, q5, q6, q7, q8⟩ := hCells.out w hSw; go_simp <;> with_reducible rfl)
  try simp only [Act.put, List.setIfInBounds_toArray, List.set_cons_zero, List.set_cons_succ]
  refine takeL 43 (v := ?_) rfl (by kernel_rfl) (by kernel_rfl) (by kernel_rfl) (fun _ _ _ h => h) (by rfl) (by assumption) ?_ ?_
  rotate_left
  · (intro w hSw; (try dsimp only at hSw); obtain ⟨⟨c5, c6, c1, c3, c4, cB⟩, ⟨p0, p1, p2, p3, p4, p5, p6, p7, p8⟩, q0, q1, q2, q3, q4, q5, q6, q7, q8⟩ := hCells.out w hSw; go_simp <;> with_reducible rfl)
  try simp only [Act.put, List.setIfInBounds_toArray, List.set_cons_zero, List.set_cons_succ]
  refine takeL 45 (v := ?_) rfl (by kernel_rfl) (by kernel_rfl) (by kernel_rfl) (fun _ _ _ h => h) (by rfl) (by assumption) ?_ ?_
  rotate_left
  · (intro w hSw; (try dsimp only at hSw); obtain ⟨⟨c5, c6, c1, c3, c4, cB⟩, ⟨p0, p1, p2, p3, p4, p5, p6, p7, p8⟩, q0, q1, q2, q3, q4, q5, q6, q7, q8⟩ := hCells.out w hSw; go_simp <;> with_reducible rfl)
  try simp only [Act.put, List.setIfInBounds_toArray, List.set_cons_zero, List.set_cons_succ]
  refine takeL 46 (v := ?_) rfl (by kernel_rfl) (by kernel_rfl) (by kernel_rfl) (fun _ _ _ h => h) (by rfl) (by assumption) ?_ ?_
  rotate_left
  · (intro w hSw; (try dsimp only at hSw); obtain ⟨⟨c5, c6, c1, c3, c4, cB⟩, ⟨p0, p1, p2, p3, p4, p5, p6, p7, p8⟩, q0, q1, q2, q3, q4, q5, q6, q7, q8⟩ := hCells.out w hSw; go_simp <;> with_reducible rfl)
  try simp only [Act.put, List.setIfInBounds_toArray, List.set_cons_zero, List.set_cons_succ]
  refine takeL 47 (v := ?_) rfl (by kernel_rfl) (by kernel_rfl) (by kernel_rfl) (fun _ _ _ h => h) (by rfl) (by assumption) ?_ ?_
  rotate_left
  · (intro w hSw; (try dsimp only at hSw); obtain ⟨⟨c5, c6, c1, c3, c4, cB⟩, ⟨p0, p1, p2, p3, p4, p5, p6, p7, p8⟩, q0, q1, q2, q3, q4, q5, q6, q7, q8⟩ := hCells.out w hSw; go_simp <;> with_reducible rfl)
  try simp only [Act.put, List.setIfInBounds_toArray, List.set_cons_zero, List.set_cons_succ]
  refine takeL 48 (v := ?_) rfl (by kernel_rfl) (by kernel_rfl) (by kernel_rfl) (fun _ _ _ h => h) (by rfl) (by assumption) ?_ ?_
  rotate_left
  · (intro w hSw; (try dsimp only at hSw); obtain ⟨⟨c5, c6, c1, c3, c4, cB⟩, ⟨p0, p1, p2, p3, p4, p5, p6, p7, p8⟩, q0, q1, q2, q3, q4, q5, q6, q7, q8⟩ := hCells.out w hSw; go_simp <;> with_reducible rfl)
  try simp only [Act.put, List.setIfInBounds_toArray, List.set_cons_zero, List.set_cons_succ]
  refine oneL 44 rfl (by kernel_rfl) (fun K hK => ?_)
  go_simp
  ((with_reducible refine hGn.mono ?_); rintro e w7 ⟨v7, rfl, o7, hb7⟩; have hb7w := hb6w.trans (hb7.mono hb6w.size); replace hbK := hbK.trans (hb7.mono hbK.size); have hIn := ints_any v7 _ s.gone r.gone w7 (by omega) (o7.el iE_len) ((hRK.out w7 hb7w).gone.el iE_len); rw [decide_eq_true hgn.out] at hIn; clear hGn o7)
  refine hK.out _ _ ?_ (fun hHeld2 => ?_)
  · (try dsimp only)
    (first | exact hbK | (rw [hWq]; exact hbK))
  clear hK K hHeld
  have hHeld := hHeld2
  clear hHeld2
  try simp only [Act.put, List.setIfInBounds_toArray, List.set_cons_zero, List.set_cons_succ]
  refine oneL 49 rfl (by kernel_rfl) (fun K hK => ?_)
  go_simp
  ((with_reducible refine hIn.mono ?_); rintro e w8 ⟨rfl, hb8⟩; have hb8w := hb7w.trans (hb8.mono hb7w.size); replace hbK := hbK.trans (hb8.mono hbK.size); have hAl := All_any B F s w8 (hBK.out _ hb8w).tx.tx (by omega); rw [hmd.out] at hAl; clear hIn)
  refine hK.out _ _ ?_ (fun hHeld2 => ?_)
  · (try dsimp only)
    (first | exact hbK | (rw [hWq]; exact hbK))
  clear hK K hHeld
  have hHeld := hHeld2
  clear hHeld2
  try simp only [Act.put, List.setIfInBounds_toArray, List.set_cons_zero, List.set_cons_succ]
  refine takeL 50 (v := ?_) rfl (by kernel_rfl) (by kernel_rfl) (by kernel_rfl) (fun _ _ _ h => h) (by rfl) (by assumption) ?_ ?_
  rotate_left
  · (intro w hSw; (try dsimp only at hSw); obtain ⟨⟨c5, c6, c1, c3, c4, cB⟩, ⟨p0, p1, p2, p3, p4, p5, p6, p7, p8⟩, q0, q1, q2, q3, q4, q5, q6, q7, q8⟩ := hCells.out w hSw; go_simp <;> with_reducible rfl)
  try simp only [Act.put, List.setIfInBounds_toArray, List.set_cons_zero, List.set_cons_succ]
  refine takeL 51 (v := ?_) rfl (by kernel_rfl) (by kernel_rfl) (by kernel_rfl) (fun _ _ _ h => h) (by rfl) (by assumption) ?_ ?_
  rotate_left
  · (intro w hSw; (try dsimp only at hSw); obtain ⟨⟨c5, c6, c1, c3, c4, cB⟩, ⟨p0, p1, p2, p3, p4, p5, p6, p7, p8⟩, q0, q1, q2, q3, q4, q5, q6, q7, q8⟩ := hCells.out w hSw; go_simp <;> with_reducible rfl)
  try simp only [Act.put, List.setIfInBounds_toArray, List.set_cons_zero, List.set_cons_succ]
  refine takeL 52 (v := ?_) rfl (by kernel_rfl) (by kernel_rfl) (by kernel_rfl) (fun _ _ _ h => h) (by rfl) (by assumption) ?_ ?_
  rotate_left
  · (intro w hSw; (try dsimp only at hSw); obtain ⟨⟨c5, c6, c1, c3, c4, cB⟩, ⟨p0, p1, p2, p3, p4, p5, p6, p7, p8⟩, q0, q1, q2, q3, q4, q5, q6, q7, q8⟩ := hCells.out w hSw; go_simp <;> with_reducible rfl)
  try simp only [Act.put, List.setIfInBounds_toArray, List.set_cons_zero, List.set_cons_succ]
  refine takeL 54 (v := ?_) rfl (by kernel_rfl) (by kernel_rfl) (by kernel_rfl) (fun _ _ _ h => h) (by rfl) (by assumption) ?_ ?_
  rotate_left
  · (intro w hSw; (try dsimp only at hSw); obtain ⟨⟨c5, c6, c1, c3, c4, cB⟩, ⟨p0, p1, p2, p3, p4, p5, p6, p7, p8⟩, q0, q1, q2, q3, q4, q5, q6, q7, q8⟩ := hCells.out w hSw; go_simp <;> with_reducible rfl)
  try simp only [Act.put, List.setIfInBounds_toArray, List.set_cons_zero, List.set_cons_succ]
  refine takeL 55 (v := ?_) rfl (by kernel_rfl) (by kernel_rfl) (by kernel_rfl) (fun _ _ _ h => h) (by rfl) (by assumption) ?_ ?_
  rotate_left
  · (intro w hSw; (try dsimp only at hSw); obtain ⟨⟨c5, c6, c1, c3, c4, cB⟩, ⟨p0, p1, p2, p3, p4, p5, p6, p7, p8⟩, q0, q1, q2, q3, q4, q5, q6, q7, q8⟩ := hCells.out w hSw; go_simp <;> with_reducible rfl)
  try simp only [Act.put, List.setIfInBounds_toArray, List.set_cons_zero, List.set_cons_succ]
  refine takeL 56 (v := ?_) rfl (by kernel_rfl) (by kernel_rfl) (by kernel_rfl) (fun _ _ _ h => h) (by rfl) (by assumption) ?_ ?_
  rotate_left
  · (intro w hSw; (try dsimp only at hSw); obtain ⟨⟨c5, c6, c1, c3, c4, cB⟩, ⟨p0, p1, p2, p3, p4, p5, p6, p7, p8⟩, q0, q1, q2, q3, q4, q5, q6, q7, q8⟩ := hCells.out w hSw; go_simp <;> with_reducible rfl)
  try simp only [Act.put, List.setIfInBounds_toArray, List.set_cons_zero, List.set_cons_succ]
  refine takeL 57 (v := ?_) rfl (by kernel_rfl) (by kernel_rfl) (by kernel_rfl) (fun _ _ _ h => h) (by rfl) (by assumption) ?_ ?_
  rotate_left
  · (intro w hSw; (try dsimp only at hSw); obtain ⟨⟨c5, c6, c1, c3, c4, cB⟩, ⟨p0, p1, p2, p3, p4, p5, p6, p7, p8⟩, q0, q1, q2, q3, q4, q5, q6, q7, q8⟩ := hCells.out w hSw; go_simp <;> with_reducible rfl)
  try simp only [Act.put, List.setIfInBounds_toArray, List.set_cons_zero, List.set_cons_succ]
  refine oneL 53 rfl (by kernel_rfl) (fun K hK => ?_)
  go_simp
  ((with_reducible refine hAl.mono ?_); rintro e w9 ⟨v9, rfl, o9, _, _, hb9⟩; have hb9w := hb8w.trans (hb9.mono hb8w.size); replace hbK := hbK.trans (hb9.mono hbK.size); have hFs := freshSame_any v9 _ r.fresh w9 (by omega) (o9.el fE_len) ((hRK.out w9 hb9w).fresh.el fE_len); clear hAl o9)
  refine hK.out _ _ ?_ (fun hHeld2 => ?_)
  · (try dsimp only)
    (first | exact hbK | (rw [hWq]; exact hbK))
  clear hK K hHeld
  have hHeld := hHeld2
  clear hHeld2
  try simp only [Act.put, List.setIfInBounds_toArray, List.set_cons_zero, List.set_cons_succ]
  refine oneL 58 rfl (by kernel_rfl) (fun K hK => ?_)
  go_simp
  ((with_reducible refine hFs.mono ?_); rintro e w10 ⟨rfl, hb10⟩; have hb10w := hb9w.trans (hb10.mono hb9w.size); replace hbK := hbK.trans (hb10.mono hbK.size); have hNt := Noted_any B F s w10 (hBK.out _ hb10w).tx.tx (by omega); clear hFs)
  refine hK.out _ _ ?_ (fun hHeld2 => ?_)
  · (try dsimp only)
    (first | exact hbK | (rw [hWq]; exact hbK))
  clear hK K hHeld
  have hHeld := hHeld2
  clear hHeld2
  try simp only [Act.put, List.setIfInBounds_toArray, List.set_cons_zero, List.set_cons_succ]
  refine takeL 59 (v := ?_) rfl (by kernel_rfl) (by kernel_rfl) (by kernel_rfl) (fun _ _ _ h => h) (by rfl) (by assumption) ?_ ?_
  rotate_left
  · (intro w hSw; (try dsimp only at hSw); obtain ⟨⟨c5, c6, c1, c3, c4, cB⟩, ⟨p0, p1, p2, p3, p4, p5, p6, p7, p8⟩, q0, q1, q2, q3, q4, q5, q6, q7, q8⟩ := hCells.out w hSw; go_simp <;> with_reducible rfl)
  try simp only [Act.put, List.setIfInBounds_toArray, List.set_cons_zero, List.set_cons_succ]
  refine takeL 60 (v := ?_) rfl (by kernel_rfl) (by kernel_rfl) (by kernel_rfl) (fun _ _ _ h => h) (by rfl) (by assumption) ?_ ?_
  rotate_left
  · (intro w hSw; (try dsimp only at hSw); obtain ⟨⟨c5, c6, c1, c3, c4, cB⟩, ⟨p0, p1, p2, p3, p4, p5, p6, p7, p8⟩, q0, q1, q2, q3, q4, q5, q6, q7, q8⟩ := hCells.out w hSw; go_simp <;> with_reducible rfl)
  try simp only [Act.put, List.setIfInBounds_toArray, List.set_cons_zero, List.set_cons_succ]
  refine takeL 61 (v := ?_) rfl (by kernel_rfl) (by kernel_rfl) (by kernel_rfl) (fun _ _ _ h => h) (by rfl) (by assumption) ?_ ?_
  rotate_left
  · (intro w hSw; (try dsimp only at hSw); obtain ⟨⟨c5, c6, c1, c3, c4, cB⟩, ⟨p0, p1, p2, p3, p4, p5, p6, p7, p8⟩, q0, q1, q2, q3, q4, q5, q6, q7, q8⟩ := hCells.out w hSw; go_simp <;> with_reducible rfl)
  try simp only [Act.put, List.setIfInBounds_toArray, List.set_cons_zero, List.set_cons_succ]
  refine takeL 63 (v := ?_) rfl (by kernel_rfl) (by kernel_rfl) (by kernel_rfl) (fun _ _ _ h => h) (by rfl) (by assumption) ?_ ?_
  rotate_left
  · (intro w hSw; (try dsimp only at hSw); obtain ⟨⟨c5, c6, c1, c3, c4, cB⟩, ⟨p0, p1, p2, p3, p4, p5, p6, p7, p8⟩, q0, q1, q2, q3, q4, q5, q6, q7, q8⟩ := hCells.out w hSw; go_simp <;> with_reducible rfl)
  try simp only [Act.put, List.setIfInBounds_toArray, List.set_cons_zero, List.set_cons_succ]
  refine oneL 62 rfl (by kernel_rfl) (fun K hK => ?_)
  go_simp
  ((with_reducible refine hNt.mono ?_); rintro e w11 ⟨v11, rfl, o11, hb11⟩; have hb11w := hb10w.trans (hb11.mono hb10w.size); replace hbK := hbK.trans (hb11.mono hbK.size); have hRN := refNoted_any B2 G r w11 (hBK.out _ hb11w).rf hGR.out; rw [hNd.out] at hRN; clear hNt)
  refine hK.out _ _ ?_ (fun hHeld2 => ?_)
  · (try dsimp only)
    (first | exact hbK | (rw [hWq]; exact hbK))
  clear hK K hHeld
  have hHeld := hHeld2
  clear hHeld2
  try simp only [Act.put, List.setIfInBounds_toArray, List.set_cons_zero, List.set_cons_succ]
  refine oneL 64 rfl (by kernel_rfl) (fun K hK => ?_)
  go_simp
  ((with_reducible refine hRN.mono ?_); rintro e w12 ⟨v12, rfl, o12, hb12⟩; have hb12w := hb11w.trans (hb12.mono hb11w.size); replace hbK := hbK.trans (hb12.mono hbK.size); have hSm := same_any v11 v12 s.noted s.noted w12 (by omega) (o11.keep hb12).pl o12.pl; rw [decide_eq_true rfl] at hSm; clear hRN o11 o12)
  refine hK.out _ _ ?_ (fun hHeld2 => ?_)
  · (try dsimp only)
    (first | exact hbK | (rw [hWq]; exact hbK))
  clear hK K hHeld
  have hHeld := hHeld2
  clear hHeld2
  try simp only [Act.put, List.setIfInBounds_toArray, List.set_cons_zero, List.set_cons_succ]
  refine oneL 65 rfl (by kernel_rfl) (fun K hK => ?_)
  go_simp
  ((with_reducible refine hSm.mono ?_); rintro e w13 ⟨rfl, hb13⟩; have hbK2 := Lib.hid (hb12w.trans (hb13.mono hb12w.size)); replace hbK := hbK.trans (hb13.mono hbK.size); clear hSm)
  refine hK.out _ _ ?_ (fun hHeld2 => ?_)
  · (try dsimp only)
    (first | exact hbK | (rw [hWq]; exact hbK))
  clear hK K hHeld
  have hHeld := hHeld2
  clear hHeld2
  try simp only [Act.put, List.setIfInBounds_toArray, List.set_cons_zero, List.set_cons_succ]
  refine takeL 66 (v := ?_) rfl (by kernel_rfl) (by kernel_rfl) (by kernel_rfl) (fun _ _ _ h => h) (by rfl) (by assumption) ?_ ?_
  rotate_left
  · (intro w hSw; (try dsimp only at hSw); obtain ⟨⟨c5, c6, c1, c3, c4, cB⟩, ⟨p0, p1, p2, p3, p4, p5, p6, p7, p8⟩, q0, q1, q2, q3, q4, q5, q6, q7, q8⟩ := hCells.out w hSw; go_simp <;> with_reducible rfl)
  try simp only [Act.put, List.setIfInBounds_toArray, List.set_cons_zero, List.set_cons_succ]
  refine takeL 67 (v := ?_) rfl (by kernel_rfl) (by kernel_rfl) (by kernel_rfl) (fun _ _ _ h => h) (by rfl) (by assumption) ?_ ?_
  rotate_left
  · (intro w hSw; (try dsimp only at hSw); obtain ⟨⟨c5, c6, c1, c3, c4, cB⟩, ⟨p0, p1, p2, p3, p4, p5, p6, p7, p8⟩, q0, q1, q2, q3, q4, q5, q6, q7, q8⟩ := hCells.out w hSw; go_simp <;> with_reducible rfl)
  try simp only [Act.put, List.setIfInBounds_toArray, List.set_cons_zero, List.set_cons_succ]
  refine wpAnyH_done (by kernel_rfl) ?_ _
  go_wp2_with fail
  go_ret
  exact ⟨rfl, hbK2.out⟩
end Go.Proofs.Ytcemiclbeocnjaa
