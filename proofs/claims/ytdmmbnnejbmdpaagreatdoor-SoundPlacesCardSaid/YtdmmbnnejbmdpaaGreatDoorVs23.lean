/-
  Part of the proof of SoundPlaces.
-/
import Derived.Test.YtdmmbnnejbmdpaaGreatDoorVs22
import Derived.Test.YtdmmbnnejbmdpaaGreatDoorVs0
set_option maxRecDepth 10000
set_option maxHeartbeats 4000000
set_option linter.unusedVariables false
set_option linter.unusedSimpArgs false
section
namespace Go.Proofs.YtdmmbnnejbmdpaaGreatDoor
open Go.RowKit
def isHead (l : List Nat) (N k : Nat) : Prop := gOk N k = true ∧ l.take 8 = headW N k (gNat N k)
theorem sOk_of {l : List Nat} {N k : Nat} (hn : l.length = N) (h : isHead l N k) : sOk l = true ∧ l.getD 3 0 = k := by
 obtain ⟨h1, h2⟩ := h
 have h4 := gOk_t h1
 have h3 : l.getD 3 0 = k := by
  have : (l.take 8).getD 3 0 = k := by rw [h2]; simp [headW, headL]
  rw [List.getD_eq_getElem?_getD, List.getElem?_take, if_pos (by omega)] at this
  rwa [List.getD_eq_getElem?_getD]
 refine ⟨?_, h3⟩
 unfold sOk
 rw [hn, h3, h1, h2]
 simp; omega
theorem sOk_none {l : List Nat} {N : Nat} (hn : l.length = N) (h : ∀ j, 1 ≤ j → j < 65 → ¬ isHead l N j) : sOk l = false := by
 cases hs : sOk l with
 | false => rfl
 | true =>
   unfold sOk at hs
   rw [hn] at hs
   simp only [Bool.and_eq_true, decide_eq_true_eq] at hs
   have h4 := gOk_t hs.2.1
   exact absurd ⟨hs.2.1, hs.2.2⟩ (h (l.getD 3 0) (by omega) (by omega))
theorem sOk_short {l : List Nat} (h : l.length < 8) : sOk l = false := by
 unfold sOk
 rw [decide_eq_false (by omega)]
 rfl
theorem rdec_short (v : Value) (l : List Nat) (N : Nat) (w : World) (hn : l.length = N) (h8 : N < 8) (hv : SL w v l) :
 Calls Tryz.prog 39 #[v] w fun e w' => e = .returned (.tuple #[.agg #[.int .i64 0, .int .i64 0], .int .i64 7]) ∧ Below w.heap.size w w' := by
 obtain ⟨sp, cap, rfl⟩ := hv.form
 rw [hn]
 have f2 : (N : Int) < 8 := by omega
 clear hn hv
 have kk := C2.new w (.int .i64 0) (.int .i64 0) 51
 have ff := F2.new w (.int .i64 0) (.int .i64 0) 51
 go_enter Tryz.func39, Tryz.ntmps39
 go_wp2_with fail
 go_loopw [4] (fun k wr => k = .int .i64 1 ∧ C2 wr w.heap.size (.int .i64 0) (.int .i64 0) ∧ F2 wr w.heap.size ∧ Below w.heap.size w wr) (fun _ _ => 0)
 case atStart => exact ⟨rfl, kk, ff, bZ _ _⟩
 case round =>
  obtain ⟨rfl, kk, ff, hB⟩ := hrel
  obtain ⟨k0, k1⟩ := id kk
  obtain ⟨f0, f1⟩ := id ff
  go_wp2_with fail
  (try simp only [Exit.inBlock, Exit.then])
  obtain ⟨w7, hw7, hC7, hb7⟩ := st2_ex kk (.int .i64 0) (.int .i64 0)
  rw [← hw7]
  refine bodyPost_ret (v := .tuple #[.agg #[.int .i64 0, .int .i64 0], .int .i64 7]) ?_ rfl ⟨rfl, hB.trans hb7⟩
  rw [results_cell_tmp rfl]
  obtain ⟨t0, t1⟩ := hC7
  clear hw7 hb7 kk ff k0 k1 f0 f1
  go_simp
end Go.Proofs.YtdmmbnnejbmdpaaGreatDoor
end
section
namespace Go.Proofs.YtdmmbnnejbmdpaaGreatDoor
open Go.RowKit
theorem take8_eq {l m : List Nat} (hl : 8 ≤ l.length) (hm : m.length = 8) (h : ∀ j, j < 8 → m.getD j 0 = l.getD j 0) : l.take 8 = m := by
 rw [take8 l hl, ← h 0 (by omega), ← h 1 (by omega), ← h 2 (by omega), ← h 3 (by omega), ← h 4 (by omega), ← h 5 (by omega), ← h 6 (by omega), ← h 7 (by omega), ← take8 m (by omega), List.take_of_length_le (by omega)]
theorem take8_at {l m : List Nat} (h : l.take 8 = m) (j : Nat) (hj : j < 8) : m.getD j 0 = l.getD j 0 := by
 rw [← h, List.getD_eq_getElem?_getD, List.getD_eq_getElem?_getD, List.getElem?_take, if_pos hj]
theorem rdec_in (l : List Nat) (N g o p : Nat) (w : World) (hn : l.length = N) (h8 : 8 ≤ N) (hN : N ≤ 1000000) (hg : g < w.heap.size) (hp : N ≤ p) (hc : ∀ i, i < N → w.cell? ⟨g, o + i, none⟩ = some (.int .u64 (l.getD i 0 : Nat))) :
 Calls Tryz.prog 39 #[.slice (some ⟨g, o, none⟩) N p] w fun e w' => e = .returned (decR N (l.getD 3 0) (sOk l)) ∧ Below w.heap.size w w' := by
 have f2 : ¬ ((N : Int) < 8) := by omega
 have f3 : (8 : Int) ≤ (N : Int) := by omega
 have hY := lh (fun k (h : isHead l N k) => show decR N (l.getD 3 0) (sOk l) = .tuple #[.agg #[.int .i64 N, .int .i64 k], .int .i64 0] from by rw [(sOk_of hn h).1, (sOk_of hn h).2]; rfl)
 have hZ := lh (fun (h : ∀ j, 1 ≤ j → j < 65 → ¬ isHead l N j) => show decR N (l.getD 3 0) (sOk l) = .tuple #[.agg #[.int .i64 0, .int .i64 0], .int .i64 7] from by rw [sOk_none hn h]; rfl)
 have hl8 := lh (show 8 ≤ l.length by omega)
 have hC := lh hc
 clear hc
 replace hn := lh hn
 generalize decR N (l.getD 3 0) (sOk l) = R at *
 have kk := C2.new w (.int .i64 0) (.int .i64 0) 51
 have ff := F2.new w (.int .i64 0) (.int .i64 0) 51
 go_enter Tryz.func39, Tryz.ntmps39
 go_wp2_with fail
 go_loopw [4] (fun k wr => ∃ m : Nat, 1 ≤ m ∧ m ≤ 65 ∧ k = .int .i64 m ∧ Hid (∀ j, 1 ≤ j → j < m → ¬ isHead l N j) ∧ C2 wr w.heap.size (.int .i64 0) (.int .i64 0) ∧ F2 wr w.heap.size ∧ Below w.heap.size w wr) (fun k _ => 66 - (intOf k).toNat)
 case atStart => exact ⟨1, by omega, by omega, rfl, (fun j h1 h2 => by omega), kk, ff, bZ _ _⟩
 case round =>
  obtain ⟨m, hm1, hm2, rfl, hF, kk, ff, hB⟩ := hrel
  by_cases hm : m = 65
  ·subst hm
   obtain ⟨k0, k1⟩ := id kk
   obtain ⟨f0, f1⟩ := id ff
   have hR := lh (hZ.out hF.out)
   go_wp2_with fail
   (try simp only [Exit.inBlock, Exit.then])
   obtain ⟨w7, hw7, hC7, hb7⟩ := st2_ex kk (.int .i64 0) (.int .i64 0)
   rw [← hw7]
   refine bodyPost_ret (v := .tuple #[.agg #[.int .i64 0, .int .i64 0], .int .i64 7]) ?_ rfl ⟨by rw [hR.out], hB.trans hb7⟩
   rw [results_cell_tmp rfl]
   obtain ⟨t0, t1⟩ := hC7
   clear hw7 hb7 kk ff k0 k1 f0 f1
   go_simp
  ·have hm3 : (m : Int) ≤ 64 := by omega
   have p1 := C2.new wr (.int .i64 N) (.int .i64 m) 51
   have hB1 : Below w.heap.size w (wr.alloc (.cells #[.int .i64 N, .int .i64 m] 51)) := hB.alloc hB.size _
   replace ff := ff.alloc kk.lt (.cells #[.int .i64 N, .int .i64 m] 51)
   replace kk := kk.alloc (.cells #[.int .i64 N, .int .i64 m] 51)
   cases hg2 : gOk N m with
   | false =>
     have hE := lh (fun w => renc_f N m w hg2)
     have hF2 : Hid (∀ j, 1 ≤ j → j < m + 1 → ¬ isHead l N j) := fun j h1 h2 hh => by
      by_cases e : j = m
      ·subst e; have := hh.1; rw [hg2] at this; exact absurd this (by simp)
      ·exact hF.out j h1 (by omega) hh
     replace hg2 := lh hg2
     obtain ⟨a0, a1⟩ := id p1
     go_wp2_with fail
     refine (hE.out _).mono ?_
     rintro e w5 ⟨rfl, hb5⟩
     have hB5 := hB1.trans (hb5.mono hB1.size)
     replace ff := ff.keep kk.lt hb5
     replace kk := kk.keep hb5
     clear hb5 hB1 p1 a0 a1
     go_wp2_with fail
     go_loopw [8, 9] (fun s i wq => s = .bool false ∧ i = .int .i64 0 ∧ C2 wq w.heap.size (.int .i64 0) (.int .i64 0) ∧ F2 wq w.heap.size ∧ Below w.heap.size w wq) (fun _ _ _ => 0)
     case atStart => exact ⟨rfl, rfl, kk, ff, hB5⟩
     case round =>
      obtain ⟨rfl, rfl, kk, ff, hB6⟩ := hrel
      go_wp2_with fail
      exact ⟨⟨m + 1, by omega, by omega, by go_num, hF2, kk, ff, hB6⟩, by simp [intOf]; omega⟩
   | true =>
     have hE := lh (fun w => renc_t N m (gNat N m) w hg2 (gNat_eq hg2))
     have hH := lh (fun (h : l.take 8 = headW N m (gNat N m)) => show isHead l N m from ⟨hg2, h⟩)
     have hF2 := lh (fun (h : ¬ l.take 8 = headW N m (gNat N m)) => show ∀ j, 1 ≤ j → j < m + 1 → ¬ isHead l N j from fun j h1 h2 hh => by
      by_cases e : j = m
      ·subst e; exact h hh.2
      ·exact hF.out j h1 (by omega) hh)
     replace hg2 := lh hg2
     obtain ⟨a0, a1⟩ := id p1
     go_wp2_with fail
     refine (hE.out _).mono ?_
     rintro e w5 ⟨v, rfl, hS5, hb5⟩
     have hB5 := hB1.trans (hb5.mono hB1.size)
     replace ff := ff.keep kk.lt hb5
     replace kk := kk.keep hb5
     have p5 := p1.keep hb5
     have hgw := Nat.lt_of_lt_of_le hg hB5.size
     clear hb5 hB1 p1 a0 a1 hE
     have hhl := headW_len N m (gNat N m)
     generalize headW N m (gNat N m) = hw at *
     obtain ⟨gh, oh, ph, rfl, hgh, hph, hch⟩ := hS5.pos (n := 7) (by omega)
     replace hhl := lh hhl
     replace hch := lh hch
     clear hS5
     go_wp2_with fail
     go_loopw [8, 9] (fun s i wq => ∃ j : Nat, j ≤ 8 ∧ i = .int .i64 j ∧ ((s = .bool true ∧ Hid (∀ i, i < j → hw.getD i 0 = l.getD i 0)) ∨ (s = .bool false ∧ Hid (¬ l.take 8 = hw))) ∧ C2 wq wr.heap.size (.int .i64 N) (.int .i64 m) ∧ C2 wq w.heap.size (.int .i64 0) (.int .i64 0) ∧ F2 wq w.heap.size ∧ Below w5.heap.size w5 wq) (fun _ i _ => 9 - (intOf i).toNat)
     case atStart => exact ⟨0, by omega, rfl, .inl ⟨rfl, fun i hi => by omega⟩, p5, kk, ff, Below.refl _ _⟩
     case round =>
      obtain ⟨j, hj, rfl, hs, p6, kk, ff, hb6⟩ := hrel
      have hB6 := hB5.trans (hb6.mono hB5.size)
      rcases hs with ⟨rfl, hq⟩ | ⟨rfl, hq⟩
      ·by_cases hj8 : j = 8
       ·subst hj8
        have hR := lh (hY.out m (hH.out (take8_eq hl8.out hhl.out hq.out)))
        obtain ⟨k0, k1⟩ := id kk
        obtain ⟨f0, f1⟩ := id ff
        obtain ⟨a0, a1⟩ := id p6
        go_wp2_with fail
        (try simp only [Exit.inBlock, Exit.then])
        obtain ⟨w7, hw7, hC7, hb7⟩ := st2_ex kk (.int .i64 N) (.int .i64 m)
        rw [← hw7]
        refine bodyPost_ret (v := .tuple #[.agg #[.int .i64 N, .int .i64 m], .int .i64 0]) ?_ rfl ⟨by rw [hR.out], hB6.trans hb7⟩
        rw [results_cell_tmp rfl]
        obtain ⟨t0, t1⟩ := hC7
        clear hw7 hb7 kk ff k0 k1 f0 f1 p6 a0 a1
        go_simp
       ·have hlt : (j : Int) < 8 := by omega
        have c1 := ((bcell hB6).1 g (o + j) hg).trans (hC.out j (by omega))
        have c2 := ((bcell hb6).1 gh (oh + j) hgh).trans (hch.out j (by omega))
        by_cases hxy : hw.getD j 0 = l.getD j 0
        ·have hE2 : Hid (∀ i, i < j + 1 → hw.getD i 0 = l.getD i 0) := fun i hi => by
          by_cases e : i = j
          ·subst e; exact hxy
          ·exact hq.out i (by omega)
         rw [hxy] at c2
         generalize l.getD j 0 = x at *
         have e1 : ((x : Int) == (x : Int)) = true := by simp
         clear hxy
         go_wp2_with fail
         go_region
         all_goals (try go_wp2_with fail)
         go_roundw
         case rel => exact ⟨j + 1, by omega, by go_num, .inl ⟨rfl, hE2⟩, p6.drew, kk.drew, ff.drew, hb6.drew⟩
         case measure => simp [intOf]; omega
        ·have hE2 : Hid (¬ l.take 8 = hw) := fun h => hxy (take8_at h j (by omega))
         have e1 : ((hw.getD j 0 : Nat) : Int) ≠ ((l.getD j 0 : Nat) : Int) := by omega
         generalize hw.getD j 0 = x at *
         generalize l.getD j 0 = y at *
         have e2 : ((x : Int) == (y : Int)) = false := by rw [beq_eq_false_iff_ne]; exact e1
         clear hxy
         go_wp2_with fail
         go_region
         all_goals (try go_wp2_with fail)
         go_roundw
         case rel => exact ⟨j + 1, by omega, by go_num, .inr ⟨rfl, hE2⟩, p6.drew, kk.drew, ff.drew, hb6.drew⟩
         case measure => simp [intOf]; omega
      ·have hT := lh (hF2.out hq.out)
       go_wp2_with fail
       exact ⟨⟨m + 1, by omega, by omega, by go_num, hT, kk, ff, hB6⟩, by simp [intOf]; omega⟩
end Go.Proofs.YtdmmbnnejbmdpaaGreatDoor
end
