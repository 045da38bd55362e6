/-
  Layer 3 (pmem): the document's Open, Image, Dirty.
-/
import Derived.Test.YtcemiclbeocnjaaPm18
set_option linter.unusedVariables false
set_option linter.unusedSimpArgs false
namespace Go.Proofs.Ytcemiclbeocnjaa
open Go.RowKit Go.ChangeShapes Go.WideShapes Go.Deep Go.Maps

theorem infoWd : (Try.prog.info? 96).map (fun i => (i.zero, i.size, i.bytes)) = some (some (.agg #[.int .u64 0, .int .u64 0, .int .u64 0, .bool false, .bool false]), 5, 32) := by kernel_rfl
theorem madeWd (n : Nat) : (madeCells #[.int .u64 0, .int .u64 0, .int .u64 0, .bool false, .bool false] (n * 5)).toList = (List.replicate n ((0, 0, 0, false, false) : Wd)).flatMap wE := by
  apply List.ext_getElem?
  intro m
  by_cases hm : m < n * 5
  · have h1 := fm_at wE_len (List.replicate n ((0, 0, 0, false, false) : Wd)) (m / 5) (m % 5) (by rw [List.length_replicate]; omega) (by omega)
    rw [show m / 5 * 5 + m % 5 = m by omega] at h1
    rw [h1, List.getD_eq_getElem?_getD, List.getElem?_replicate, if_pos (by omega)]
    rw [Array.getElem?_toList]
    unfold madeCells
    rw [Array.getElem?_map, Array.getElem?_range, if_pos hm]
    have : m % 5 = 0 ∨ m % 5 = 1 ∨ m % 5 = 2 ∨ m % 5 = 3 ∨ m % 5 = 4 := by omega
    rcases this with h | h | h | h | h <;> (rw [h]; simp [wE, h])
  · rw [List.getElem?_eq_none (by rw [Array.length_toList, size_madeCells]; omega), List.getElem?_eq_none (by rw [fm_len wE_len, List.length_replicate]; omega)]
/-- the words below k have come -/
def okL (l : List Nat) (k : Nat) : List Nat := (List.range l.length).map fun j => if j < k then l.getD j 0 else 0
theorem okL_len (l : List Nat) (k : Nat) : (okL l k).length = l.length := by simp [okL]
theorem okL_at (l : List Nat) (k j : Nat) (h : j < l.length) : (okL l k).getD j 0 = if j < k then l.getD j 0 else 0 := by
  unfold okL
  rw [List.getD_eq_getElem?_getD, List.getElem?_map, List.getElem?_range h]
  rfl
theorem okL_all (l : List Nat) : okL l l.length = l := by
  apply List.ext_getElem?
  intro m
  by_cases h : m < l.length
  · have := okL_at l l.length m h
    rw [if_pos h] at this
    rw [List.getD_eq_getElem?_getD, List.getD_eq_getElem?_getD, List.getElem?_eq_getElem (by rw [okL_len]; exact h), List.getElem?_eq_getElem h] at this
    rw [List.getElem?_eq_getElem (by rw [okL_len]; exact h), List.getElem?_eq_getElem h]
    simpa using this
  · rw [List.getElem?_eq_none (by rw [okL_len]; omega), List.getElem?_eq_none (by omega)]
/-- a new one of the document's -/
def MadeP (l : List Nat) (w : World) (e : Ending) (w' : World) : Prop := ∃ B F, e = .returned (.pointer (some ⟨B, 0, none⟩)) ∧ RvAt w' B F (dv0 l) ∧ (∀ k, F k → w.heap.size ≤ k) ∧ Below w.heap.size w w'

set_option maxRecDepth 10000 in
set_option maxHeartbeats 4000000 in
theorem rOpen (v : Value) (l : List Nat) (w : World) (hl : 1 ≤ l.length) (hl2 : l.length ≤ 1000) (hv : KL .u64 w v l) :
    Calls Try.prog 14 #[v] w (MadeP l w) := by
  obtain ⟨n, hn⟩ : ∃ n, l.length = n := ⟨_, rfl⟩
  have hvh := Lib.hid hv
  obtain ⟨A, cap, rfl, _⟩ := hv.form hn
  rw [hn] at hl hl2
  obtain ⟨i0, hi, hz0, hz1, hz2⟩ := info_parts infoWd
  have k1 : ¬ (n : Int) < 1 := by omega
  have k2 : ¬ 65536 < (n : Int) := by omega
  replace hn := Lib.hid hn
  clear hv
  go_enter Try.func14, Try.ntmps14
  go_wp2_with (at_make; refine wpList_make_full _ rfl _ _ 38 rfl w.heap.size 96 i0 (.agg #[.int .u64 0, .int .u64 0, .int .u64 0, .bool false, .bool false]) 5 Try.underlying38 hi hz0 hz1 .i64 .i64 _ _ n rfl rfl rfl rfl (by rw [hz2]; omega) (by unfold maxLen; omega) (Nat.le_refl _) ?_; intro w1 hown hgr; replace hown := Lib.hid hown; replace hgr := Lib.hid hgr)
  have hw1 : Below w.heap.size w w1 := (Below.refl _ w).grown hgr.out (Nat.le_refl _) (by simp)
  have hO : OwnE 96 5 wE w1 w.heap.size (.slice (some ⟨w.heap.size, 0, none⟩) n n) (List.replicate n ((0, 0, 0, false, false) : Wd)) := by
    have q := hown.out
    unfold OwnE
    rw [List.length_replicate, ← madeWd]
    exact q
  have hs1 : w.heap.size < w1.heap.size := (hO.lt w.heap.size rfl).2
  have hA1 : Below w1.heap.size w1 (w1.alloc (.cells #[.slice (some ⟨w.heap.size, 0, none⟩) n n, .int .i64 0, .bool false, .int .i64 0] (40 : Nat))) := (Below.refl _ _).alloc (Nat.le_refl _) _
  have hb1 := World.alloc_heap_new w1 (.cells #[.slice (some ⟨w.heap.size, 0, none⟩) n n, .int .i64 0, .bool false, .int .i64 0] (40 : Nat))
  obtain ⟨w2, hw2⟩ : ∃ w2, w1.alloc (.cells #[.slice (some ⟨w.heap.size, 0, none⟩) n n, .int .i64 0, .bool false, .int .i64 0] (40 : Nat)) = w2 := ⟨_, rfl⟩
  have hs2 : w2.heap.size = w1.heap.size + 1 := by rw [← hw2]; simp
  rw [hw2] at hA1 hb1 ⊢
  have hbw2 := hw1.trans (hA1.mono hw1.size)
  have hL0 : Hid (RvL w2 w2 w1.heap.size (.slice (some ⟨w.heap.size, 0, none⟩) n n) (fun k => k = w1.heap.size ∨ k = w.heap.size) n (dv0 l) (dv0 (okL l 0))) :=
    ⟨_, ⟨hb1, (hO.keep hA1).mono (Nat.zero_le _), .inl rfl, fun k e => .inr (by cases e; rfl), fun k e => by omega⟩, List.length_replicate .., ⟨by rw [List.length_replicate]; show n = (okL l 0).length; rw [okL_len, hn.out], fun i hi => by
      rw [List.length_replicate] at hi
      have hg : (List.replicate n ((0, 0, 0, false, false) : Wd)).getD i default = (0, 0, 0, false, false) := by rw [List.getD_eq_getElem?_getD, List.getElem?_replicate, if_pos hi]; rfl
      rw [hg]
      refine ⟨?_, rfl, fun a h => (by cases h), rfl, fun a h => (by cases h)⟩
      show 0 = (okL l 0).getD i 0
      rw [okL_at l 0 i (by rw [hn.out]; exact hi), if_neg (by omega)]⟩, Chg.refl _ _⟩
  have hvW := Lib.hid (fun w' (hb : Below w.heap.size w w') => hvh.out.keep hb)
  have hFw := Lib.hid (fun k (q : k = w1.heap.size ∨ k = w.heap.size) => show w.heap.size ≤ k from by omega)
  replace hbw2 := Lib.hid hbw2
  clear hw2 hA1 hb1 hO hown hgr hw1 hi hz0 hz1 hz2
  go_loopw [4] (fun i wr => ∃ k : Nat, k ≤ n ∧ i = .int .i64 k ∧ Hid (RvL w2 wr w1.heap.size (.slice (some ⟨w.heap.size, 0, none⟩) n n) (fun k => k = w1.heap.size ∨ k = w.heap.size) n (dv0 l) (dv0 (okL l k)))) (fun i _ => n + 1 - (intOf i).toNat)
  case atStart => exact ⟨0, Nat.zero_le _, rfl, hL0⟩
  case round =>
    clear hL0
    obtain ⟨k, hk, rfl, hLh⟩ := hrel
    have hBw : Below w.heap.size w wr := by
      obtain ⟨W, _, _, _, hc⟩ := hLh.out
      exact hbw2.out.trans (hc.below hFw.out hbw2.out.size)
    by_cases hlt : k < n
    · obtain ⟨y, hat, hX⟩ := hLh.out.x hlt
      obtain ⟨⟨d0, d1, d2, d3, d4⟩, fg, ⟨c0, _⟩, hBl, hgl, hset⟩ := hX.drew.word hlt
      have hlt' : (k : Int) < (n : Int) := by omega
      obtain ⟨A2, cap2, he, hcc⟩ := (hvW.out wr hBw).form hn.out
      obtain ⟨gs, os, hA, hcaps, hgs, e0⟩ := hcc wr k (Below.refl _ _) hlt
      cases he
      subst hA
      have e0d : wr.drew.cell? ⟨gs, os + k, none⟩ = some (.int .u64 (l.getD k 0 : Nat)) := e0
      obtain ⟨x, hx⟩ : ∃ x, l.getD k 0 = x := ⟨_, rfl⟩
      obtain ⟨y0, y1, y2, y3, y4⟩ := y
      obtain ⟨r1, r2, r3, r4, r5⟩ := hat
      have hnk : ∀ j : Nat, j < n → j ≠ k → (okL l (k + 1)).getD j 0 = (okL l k).getD j 0 := fun j hj hjk => by
        rw [okL_at l _ j (by rw [hn.out]; exact hj), okL_at l _ j (by rw [hn.out]; exact hj)]
        by_cases e : j < k
        · rw [if_pos (by omega), if_pos e]
        · rw [if_neg (by omega), if_neg e]
      have hL1 := Lib.hid (hset 0 (.int .u64 (x : Nat)) (x, y1, y2, y3, y4) (by decide) rfl (dv0 (okL l (k + 1))) ⟨(by show x = (okL l (k + 1)).getD k 0; rw [okL_at l _ k (by rw [hn.out]; exact hlt), if_pos (by omega), hx]), r2, r3, r4, r5⟩ (by show (okL l (k + 1)).length = (okL l k).length; rw [okL_len, okL_len]) (fun j hj hj2 => ⟨hnk j hj2 hj, rfl, rfl⟩)).l
      rw [Nat.add_zero] at hL1
      rw [hx] at e0 e0d
      have f0 := fg (k * 5)
      simp only [] at d0
      replace hx := Lib.hid hx
      replace hvW := Lib.hid hvW.out
      clear hcc hset hX r1 r2 r3 r4 r5 d1 d2 d3 d4 fg hnk
      go_wp2_with fail
      refine wp_region_tail (S := (fun w' => w' = wr.drew)) (n := 11) (by kernel_rfl) ?_ (fun hHeld hInv => ?_) (by decide)
      · (try dsimp only)
        all_goals rfl
      refine takeS 0 (v := ?_) (tailAt (by kernel_rfl)) hInv (by decide) rfl (by kernel_rfl) (by kernel_rfl) (by kernel_rfl) (fun _ _ _ h => h) (by rfl) (by assumption) ?_ (fun hInv2 => ?_)
      rotate_left
      · (intro w hSw; (try dsimp only at hSw); (subst hSw); go_simp <;> with_reducible rfl)
      clear hInv
      have hInv := hInv2
      clear hInv2
      try simp only [Act.put, List.setIfInBounds_toArray, List.set_cons_zero, List.set_cons_succ] at hInv ⊢
      refine takeS 1 (v := ?_) (tailAt (by kernel_rfl)) hInv (by decide) rfl (by kernel_rfl) (by kernel_rfl) (by kernel_rfl) (fun _ _ _ h => h) (by rfl) (by assumption) ?_ (fun hInv2 => ?_)
      rotate_left
      · (intro w hSw; (try dsimp only at hSw); (subst hSw); go_simp <;> with_reducible rfl)
      clear hInv
      have hInv := hInv2
      clear hInv2
      try simp only [Act.put, List.setIfInBounds_toArray, List.set_cons_zero, List.set_cons_succ] at hInv ⊢
      refine takeS 2 (v := ?_) (tailAt (by kernel_rfl)) hInv (by decide) rfl (by kernel_rfl) (by kernel_rfl) (by kernel_rfl) (fun _ _ _ h => h) (by rfl) (by assumption) ?_ (fun hInv2 => ?_)
      rotate_left
      · (intro w hSw; (try dsimp only at hSw); (subst hSw); go_simp <;> with_reducible rfl)
      clear hInv
      have hInv := hInv2
      clear hInv2
      try simp only [Act.put, List.setIfInBounds_toArray, List.set_cons_zero, List.set_cons_succ] at hInv ⊢
      refine takeS 3 (v := ?_) (tailAt (by kernel_rfl)) hInv (by decide) rfl (by kernel_rfl) (by kernel_rfl) (by kernel_rfl) (fun _ _ _ h => h) (by rfl) (by assumption) ?_ (fun hInv2 => ?_)
      rotate_left
      · (intro w hSw; (try dsimp only at hSw); (subst hSw); go_simp <;> with_reducible rfl)
      clear hInv
      have hInv := hInv2
      clear hInv2
      try simp only [Act.put, List.setIfInBounds_toArray, List.set_cons_zero, List.set_cons_succ] at hInv ⊢
      refine takeS 4 (v := ?_) (tailAt (by kernel_rfl)) hInv (by decide) rfl (by kernel_rfl) (by kernel_rfl) (by kernel_rfl) (fun _ _ _ h => h) (by rfl) (by assumption) ?_ (fun hInv2 => ?_)
      rotate_left
      · (intro w hSw; (try dsimp only at hSw); (subst hSw); go_simp <;> with_reducible rfl)
      clear hInv
      have hInv := hInv2
      clear hInv2
      try simp only [Act.put, List.setIfInBounds_toArray, List.set_cons_zero, List.set_cons_succ] at hInv ⊢
      refine takeS 5 (v := ?_) (tailAt (by kernel_rfl)) hInv (by decide) rfl (by kernel_rfl) (by kernel_rfl) (by kernel_rfl) (fun _ _ _ h => h) (by rfl) (by assumption) ?_ (fun hInv2 => ?_)
      rotate_left
      · (intro w hSw; (try dsimp only at hSw); (subst hSw); go_simp <;> with_reducible rfl)
      clear hInv
      have hInv := hInv2
      clear hInv2
      try simp only [Act.put, List.setIfInBounds_toArray, List.set_cons_zero, List.set_cons_succ] at hInv ⊢
      refine takeS 6 (v := ?_) (tailAt (by kernel_rfl)) hInv (by decide) rfl (by kernel_rfl) (by kernel_rfl) (by kernel_rfl) (fun _ _ _ h => h) (by rfl) (by assumption) ?_ (fun hInv2 => ?_)
      rotate_left
      · (intro w hSw; (try dsimp only at hSw); (subst hSw); go_simp <;> with_reducible rfl)
      clear hInv
      have hInv := hInv2
      clear hInv2
      try simp only [Act.put, List.setIfInBounds_toArray, List.set_cons_zero, List.set_cons_succ] at hInv ⊢
      refine takeS 7 (v := ?_) (tailAt (by kernel_rfl)) hInv (by decide) rfl (by kernel_rfl) (by kernel_rfl) (by kernel_rfl) (fun _ _ _ h => h) (by rfl) (by assumption) ?_ (fun hInv2 => ?_)
      rotate_left
      · (intro w hSw; (try dsimp only at hSw); (subst hSw); go_simp <;> with_reducible rfl)
      clear hInv
      have hInv := hInv2
      clear hInv2
      try simp only [Act.put, List.setIfInBounds_toArray, List.set_cons_zero, List.set_cons_succ] at hInv ⊢
      refine takeS 8 (v := ?_) (tailAt (by kernel_rfl)) hInv (by decide) rfl (by kernel_rfl) (by kernel_rfl) (by kernel_rfl) (fun _ _ _ h => h) (by rfl) (by assumption) ?_ (fun hInv2 => ?_)
      rotate_left
      · (intro w hSw; (try dsimp only at hSw); (subst hSw); go_simp <;> with_reducible rfl)
      clear hInv
      have hInv := hInv2
      clear hInv2
      try simp only [Act.put, List.setIfInBounds_toArray, List.set_cons_zero, List.set_cons_succ] at hInv ⊢
      refine takeS 9 (v := ?_) (tailAt (by kernel_rfl)) hInv (by decide) rfl (by kernel_rfl) (by kernel_rfl) (by kernel_rfl) (fun _ _ _ h => h) (by rfl) (by assumption) ?_ (fun hInv2 => ?_)
      rotate_left
      · (intro w hSw; (try dsimp only at hSw); (subst hSw); go_simp <;> with_reducible rfl)
      clear hInv
      have hInv := hInv2
      clear hInv2
      try simp only [Act.put, List.setIfInBounds_toArray, List.set_cons_zero, List.set_cons_succ] at hInv ⊢
      refine takeS 10 (v := ?_) (tailAt (by kernel_rfl)) hInv (by decide) rfl (by kernel_rfl) (by kernel_rfl) (by kernel_rfl) (fun _ _ _ h => h) (by rfl) (by assumption) ?_ (fun hInv2 => ?_)
      rotate_left
      · (intro w hSw; (try dsimp only at hSw); (subst hSw); go_simp <;> with_reducible rfl)
      clear hInv
      have hInv := hInv2
      clear hInv2
      try simp only [Act.put, List.setIfInBounds_toArray, List.set_cons_zero, List.set_cons_succ] at hInv ⊢
      refine lastS 11 rfl (by decide) (by kernel_rfl) (fun K hK => ?_)
      go_simp
      refine hK.out _ _ ?_
      clear hK K
      refine wpAnyS_done (by kernel_rfl) ?_ _
      go_wp2_with fail
      go_roundw
      case rel => exact ⟨k + 1, by omega, by go_num, hL1⟩
      case measure => simp [intOf]; omega
    · obtain rfl : k = n := by omega
      go_wp2_with fail
      go_ret
      have hE := (hLh.out.at rfl rfl rfl).1
      rw [show okL l k = l from by rw [← hn.out]; exact okL_all l] at hE
      exact ⟨_, _, rfl, hE, hFw.out, hBw⟩

set_option maxRecDepth 10000 in
set_option maxHeartbeats 2000000 in
theorem rImage (B : Nat) (F : Nat → Prop) (s : Dv) (w : World) (h : RvAt w B F s) (hg : GoodD s) :
    Calls Try.prog 26 #[.pointer (some ⟨B, 0, none⟩)] w fun e w' => ∃ v, e = .returned v ∧ OwnU w' w.heap.size v s.L ∧ Below w.heap.size w w' := by
  have hl0 := hg.len0
  have hlen := hg.len
  obtain ⟨N, hN⟩ : ∃ N, s.L.length = N := ⟨_, rfl⟩
  rw [hN] at hl0 hlen
  have hAt := Lib.hid h
  have hN' := Lib.hid hN
  clear hg h
  go_enter Try.func26, Try.ntmps26
  go_wp2_with fail
  go_loopw [3, 4] (fun v i wr => ∃ k : Nat, k ≤ N ∧ i = .int .i64 k ∧ Hid (OwnU wr w.heap.size v (s.L.take k)) ∧ Below w.heap.size w wr) (fun _ i _ => N + 1 - (intOf i).toNat)
  case atStart => exact ⟨0, Nat.zero_le _, rfl, World.ownsRow_nil _ _ _ _, Below.refl _ _⟩
  case round =>
    obtain ⟨k, hk, rfl, hO, hB⟩ := hrel
    obtain ⟨g, cap, hgF, hL⟩ := RvL.of (N := N) (hAt.out.keep hB) hN'.out (by omega) (Chg.refl F wr)
    by_cases hlt : k < N
    · obtain ⟨y, hat, ⟨d0, d1, d2, d3, d4⟩, fg, ⟨c0, _⟩, hBl, hgl, _⟩ := hL.word hlt
      have hlt' : (k : Int) < (N : Int) := by omega
      obtain ⟨y0, y1, y2, y3, y4⟩ := y
      have r1 := hat.1
      simp only [] at d0 d1 d2 d3 d4 r1
      have htk := Lib.hid (show s.L.take (k + 1) = s.L.take k ++ [y0] from by
        rw [List.take_succ_eq_append_getElem (by omega), r1, List.getD_eq_getElem?_getD, List.getElem?_eq_getElem (by omega)]; rfl)
      have hlk : (s.L.take k).length = k := by rw [List.length_take]; omega
      have hOO := hO.out
      unfold OwnU at hOO
      rw [hlk] at hOO
      obtain ⟨v', w1, hrun, hown', hgrow, hl2⟩ := appU (w := wr.alloc (.cells #[.int .u64 (y0 : Nat)] (32 : Nat))) (y := y0) (base := w.heap.size) (hOO.alloc _) (cell_new1 wr _ _) (by have := hB.size; simp; omega) (by omega)
      obtain ⟨g', cap', rfl⟩ := ownsRow_succ hown'
      have hB1 : Below w.heap.size w w1 := (hB.alloc hB.size _).grown hgrow (by have := hB.size; simp; omega) (fun j ej => (hOO.lt j ej).1)
      have hO1 : Hid (OwnU w1 w.heap.size (.slice (some ⟨g', 0, none⟩) (k + 1) cap') (s.L.take (k + 1))) := by
        show OwnU _ _ _ _
        unfold OwnU
        rw [htk.out, List.length_append, List.length_singleton, hlk, List.map_append]
        exact hown'
      clear hgrow hown' hOO d1 d2 d3 d4 fg hat hL hlk r1
      go_wp2_with (at_builtin; refine wpList_append_run rfl _ _ 22 rfl _ _ _ rfl rfl hrun ?_)
      go_roundw
      case rel => exact ⟨k + 1, by omega, by go_num, hO1, hB1⟩
      case measure => simp [intOf]; omega
    · obtain rfl : k = N := by omega
      obtain ⟨y, _, _, _, ⟨c0, _⟩, _⟩ := hL.word (i := 0) (by omega)
      rw [List.take_of_length_le (by rw [hN'.out]; exact Nat.le_refl _)] at hO
      obtain ⟨A9, c9, hv9, _⟩ := hO.out.form
      subst hv9
      clear hL
      go_wp2_with fail
      go_ret
      exact ⟨_, rfl, hO.out, hB⟩

set_option maxRecDepth 10000 in
set_option maxHeartbeats 2000000 in
theorem rDirty (B : Nat) (F : Nat → Prop) (s : Dv) (w : World) (h : RvAt w B F s) (hg : GoodD s) :
    Calls Try.prog 21 #[.pointer (some ⟨B, 0, none⟩)] w fun e w' => ∃ v, e = .returned v ∧ OwnE 3 1 iE w' w.heap.size v (keysL s.L.length s.c) ∧ Below w.heap.size w w' := by
  have hl0 := hg.len0
  have hlen := hg.len
  obtain ⟨N, hN⟩ : ∃ N, s.L.length = N := ⟨_, rfl⟩
  rw [hN] at hl0 hlen ⊢
  have hAt := Lib.hid h
  have hN' := Lib.hid hN
  clear hg h
  go_enter Try.func21, Try.ntmps21
  go_wp2_with fail
  go_loopw [3, 4] (fun v i wr => ∃ k : Nat, k ≤ N ∧ i = .int .i64 k ∧ Hid (OwnE 3 1 iE wr w.heap.size v (keysL k s.c)) ∧ Below w.heap.size w wr) (fun _ i _ => N + 1 - (intOf i).toNat)
  case atStart => exact ⟨0, Nat.zero_le _, rfl, OwnE.nil _ _ _ _ _, Below.refl _ _⟩
  case round =>
    obtain ⟨k, hk, rfl, hO, hB⟩ := hrel
    obtain ⟨g, cap, hgF, hL⟩ := RvL.of (N := N) (hAt.out.keep hB) hN'.out (by omega) (Chg.refl F wr)
    by_cases hlt : k < N
    · obtain ⟨y, hat, ⟨d0, d1, d2, d3, d4⟩, fg, ⟨c0, _⟩, hBl, hgl, _⟩ := hL.word hlt
      have hlt' : (k : Int) < (N : Int) := by omega
      obtain ⟨y0, y1, y2, y3, y4⟩ := y
      have r2 := hat.2.1
      simp only [] at d3 r2
      have hks := keysL_succ k s.c
      have hkl := keysL_len k s.c
      cases hcx : s.c (k : Int) with
      | none =>
        rw [hcx] at r2 hks
        simp only [Option.isSome_none] at r2
        subst r2
        simp only [Option.isSome_none, Bool.false_eq_true, if_false, List.append_nil] at hks
        replace hks := Lib.hid hks
        clear d0 d1 d2 d4 fg hat hL hkl hcx
        go_wp2_with fail
        go_roundw
        case rel => exact ⟨k + 1, by omega, by go_num, by rw [hks.out]; exact hO, hB⟩
        case measure => simp [intOf]; omega
      | some a =>
        rw [hcx] at r2 hks
        simp only [Option.isSome_some] at r2
        subst r2
        simp only [Option.isSome_some, if_true] at hks
        obtain ⟨v', w1, hrun, hown', hgrow, hl2, _⟩ := appE iT (OwnE.alloc hO.out (.cells #[.int .i64 (k : Int)] (3 : Nat))) (one_int wr (k : Int)) (by have := hB.size; simp; omega) (by omega) (by simp)
        obtain ⟨g', cap', rfl, _⟩ := hown'.form (by simp)
        have hB1 : Below w.heap.size w w1 := (hB.alloc hB.size _).grown hgrow (by have := hB.size; simp; omega) (fun j ej => (hO.out.lt j ej).1)
        rw [← hks] at hrun hown'
        have hO1 := Lib.hid hown'
        clear hgrow hown' d0 d1 d2 d4 fg hat hL hkl hcx hks
        go_wp2_with (at_builtin; refine wpList_append_run rfl _ _ 43 rfl _ _ _ rfl rfl hrun ?_)
        go_roundw
        case rel => exact ⟨k + 1, by omega, by go_num, hO1, hB1⟩
        case measure => simp [intOf]; omega
    · obtain rfl : k = N := by omega
      obtain ⟨y, _, _, _, ⟨c0, _⟩, _⟩ := hL.word (i := 0) (by omega)
      obtain ⟨A9, c9, hv9, _⟩ := (hO.out.el iE_len).form rfl
      subst hv9
      clear hL
      go_wp2_with fail
      go_ret
      exact ⟨_, rfl, hO.out, hB⟩
end Go.Proofs.Ytcemiclbeocnjaa
