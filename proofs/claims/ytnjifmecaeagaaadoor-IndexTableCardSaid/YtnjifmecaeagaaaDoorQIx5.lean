/-
  Package index: Free, Drop, Keep.
-/
import Derived.Test.YtnjifmecaeagaaaDoorQIx4
set_option linter.unusedVariables false
set_option linter.unusedSimpArgs false
namespace Go.Proofs.YtnjifmecaeagaaaDoor
open Go.RowKit Go.ChangeShapes Go.WideShapes Go.Deep

theorem andNot_clr {a b : Nat} (ha : a < 18446744073709551616) (hb : b < 18446744073709551616) : bits .andNot .u64 (a : Int) (b : Int) = (clrN a b : Nat) := by
  rw [u64_andNot_nat a b ha hb]
  congr 1
  apply Nat.eq_of_testBit_eq; intro i
  unfold clrN
  rw [Nat.testBit_and, Nat.testBit_xor, Nat.testBit_and, show 18446744073709551615 - b = 2 ^ 64 - (b + 1) by omega, Nat.testBit_two_pow_sub_succ (by omega)]
  by_cases hi : i < 64
  · rw [decide_eq_true hi]; cases a.testBit i <;> cases b.testBit i <;> rfl
  · have h1 : a.testBit i = false := Nat.testBit_lt_two_pow (Nat.lt_of_lt_of_le ha (Nat.pow_le_pow_right (n := 2) (by omega) (by omega : 64 ≤ i)))
    rw [h1]; rfl
/-- what a bit that is there tells -/
theorem bit_there {S : List St} (h : SOk S) {ch ix cl mn : Int} (hb : ¬ bitS S ch ix cl mn = 0) : ∃ i : Nat, ch = (i : Int) ∧ i < S.length ∧ bitS S ch ix cl mn < 256 ∧ (gS S i).2.1 < 256 ∧ (gS S i).2.2 < 256 ∧ (cl = -1 → 0 ≤ ch ∧ 1 ≤ mn ∧ ch + mn ≤ S.length) := by
  by_cases h0 : 0 ≤ ch ∧ ch < S.length
  · obtain ⟨i, rfl⟩ : ∃ i : Nat, ch = (i : Int) := ⟨ch.toNat, by omega⟩
    have hi : i < S.length := by omega
    have hO := h.each i hi
    refine ⟨i, rfl, hi, ?_⟩
    have hp := pow_mn (cN (gS S i).1)
    have hE : bitS S (i : Nat) ix cl mn = (if kN (gS S i).1 = 1 ∧ cl = (cN (gS S i).1 : Nat) ∧ 0 ≤ ix ∧ ix < (mnN (cN (gS S i).1) : Nat) then 2 ^ ix.toNat else if kN (gS S i).1 = 2 ∧ cl = -1 ∧ ix = 0 ∧ mn = (mN (gS S i).1 : Nat) then 1 else 0) := by
      unfold bitS
      rw [if_pos h0, Int.toNat_natCast]
    by_cases c1 : kN (gS S i).1 = 1 ∧ cl = (cN (gS S i).1 : Nat) ∧ 0 ≤ ix ∧ ix < (mnN (cN (gS S i).1) : Nat)
    · obtain ⟨r1, r2, r3⟩ := hO.run c1.1
      refine ⟨?_, by omega, by omega, fun q => by omega⟩
      rw [hE, if_pos c1]
      have : 2 ^ ix.toNat < 2 ^ mnN (cN (gS S i).1) := Nat.pow_lt_pow_right (by omega) (by omega)
      omega
    · by_cases c2 : kN (gS S i).1 = 2 ∧ cl = -1 ∧ ix = 0 ∧ mn = (mN (gS S i).1 : Nat)
      · have hh := hO.huge c2.1
        obtain ⟨m1, m2⟩ := huge_many h hi c2.1
        refine ⟨?_, by omega, by omega, fun q => by omega⟩
        rw [hE, if_neg c1, if_pos c2]; omega
      · exact absurd (by rw [hE, if_neg c1, if_neg c2]) hb
  · exact absurd (by unfold bitS; rw [if_neg h0]) hb
theorem IxAt.set {w : World} {base B g nn cap : Nat} {S : List St} (h : IxAt w base B (.slice (some ⟨g, 0, none⟩) nn cap) S) (hn : S.length = nn) {i j : Nat} (hi : i < nn) (hj : j < 7) {s : St} {u : Value} (he : eS s = (eS (gS S i)).set j u) :
    IxAt (w.setCell ⟨g, i * 7 + j, none⟩ u) base B (.slice (some ⟨g, 0, none⟩) nn cap) (S.set i s) ∧ Chg (fun k => k = g) w (w.setCell ⟨g, i * 7 + j, none⟩ u) := by
  have hc : Chg (fun k => k = g) w (w.setCell ⟨g, i * 7 + j, none⟩ u) := Chg.setCell (S := fun k => k = g) w g _ _ rfl
  exact ⟨⟨(hc.block B h.box.lt (fun q => h.ne g rfl q.symm)).trans h.box, OwnE.set eS_len h.row hn hi hj he, h.lo⟩, hc⟩

set_option maxRecDepth 10000 in
set_option maxHeartbeats 1000000 in
theorem free_any {w : World} {base B : Nat} {v : Value} {S : List St} (hI : IxAt w base B v S) (hS : SOk S) (ch ix cl mn : Int) (fr : Bool) (hl : S.length ≤ 10000) (hw : Lw w) :
    Calls Tryd.prog 45 #[.pointer (some ⟨B, 0, none⟩), .agg #[.int .i64 ch, .int .i64 ix, .int .i64 cl, .int .i64 mn, .bool fr]] w fun e w' => e = .returned (.bool (freeS S ch ix cl mn).1) ∧ IxAt w' base B v (freeS S ch ix cl mn).2 ∧ Chg (fun k => v.ownBlock = some k) w w' := by
  have hA := (Below.refl w.heap.size w).alloc (Nat.le_refl _) (.cells #[.int .i64 ch, .int .i64 ix, .int .i64 cl, .int .i64 mn, .bool fr] 62)
  have hI1 := hI.keep hA
  have hBit := ixBit_any hI1 ch ix cl mn fr hl (hw.keep hA)
  obtain ⟨C, hC⟩ : ∃ C, w.heap.size = C := ⟨_, rfl⟩
  obtain ⟨p0, p1, p2, p3, p4⟩ : (w.alloc (.cells #[.int .i64 ch, .int .i64 ix, .int .i64 cl, .int .i64 mn, .bool fr] 62)).cell? ⟨C, 0, none⟩ = some (.int .i64 ch) ∧ (w.alloc (.cells #[.int .i64 ch, .int .i64 ix, .int .i64 cl, .int .i64 mn, .bool fr] 62)).cell? ⟨C, 1, none⟩ = some (.int .i64 ix) ∧ (w.alloc (.cells #[.int .i64 ch, .int .i64 ix, .int .i64 cl, .int .i64 mn, .bool fr] 62)).cell? ⟨C, 2, none⟩ = some (.int .i64 cl) ∧ (w.alloc (.cells #[.int .i64 ch, .int .i64 ix, .int .i64 cl, .int .i64 mn, .bool fr] 62)).cell? ⟨C, 3, none⟩ = some (.int .i64 mn) ∧ (w.alloc (.cells #[.int .i64 ch, .int .i64 ix, .int .i64 cl, .int .i64 mn, .bool fr] 62)).cell? ⟨C, 4, none⟩ = some (.bool fr) := by
    rw [← hC]; refine ⟨?_, ?_, ?_, ?_, ?_⟩ <;> simp [go_sem]
  have hFr : freeS S ch ix cl mn = (if bitS S ch ix cl mn = 0 ∨ (gS S ch.toNat).2.1 &&& bitS S ch ix cl mn = 0 then (false, S) else (true, vacS (S.set ch.toNat ((gS S ch.toNat).1, clrN (gS S ch.toNat).2.1 (bitS S ch ix cl mn), (gS S ch.toNat).2.2)) ch cl mn)) := rfl
  have hBt := bit_there hS (ch := ch) (ix := ix) (cl := cl) (mn := mn)
  generalize freeS S ch ix cl mn = r at *
  generalize bitS S ch ix cl mn = bt at *
  clear hS hw
  by_cases b0 : bt = 0
  · have t1 : (((bt : Nat) : Int) == 0) = true := by rw [beq_iff_eq]; omega
    rw [if_pos (.inl b0)] at hFr
    subst hFr
    clear hBt b0 hl
    go_enter Tryd.func45, Tryd.ntmps45
    go_wp2_with fail
    (try simp only [hC])
    generalize (w.alloc (.cells #[.int .i64 ch, .int .i64 ix, .int .i64 cl, .int .i64 mn, .bool fr] 62)) = W1 at *
    refine hBit.mono ?_
    rintro e w2 ⟨rfl, hb2⟩
    have hI2 := hI1.keep hb2
    have hA2 := hA.trans (hb2.mono hA.size)
    clear hBit
    go_wp2_with fail
    refine wp_region_held_drew (S := (fun w' => w' = w2.drew)) (by kernel_rfl) ?_ (fun hHeld => ?_)
    · (try dsimp only)
      all_goals rfl
    refine takeL 0 (v := ?_) rfl (by kernel_rfl) (by kernel_rfl) (by kernel_rfl) (fun _ _ _ h => h) (by rfl) (by assumption) ?_ ?_
    rotate_left
    · (intro w hSw; (subst hSw); go_simp <;> with_reducible rfl)
    try simp only [Act.put, List.setIfInBounds_toArray, List.set_cons_zero, List.set_cons_succ]
    refine takeL 1 (v := ?_) rfl (by kernel_rfl) (by kernel_rfl) (by kernel_rfl) (fun _ _ _ h => h) (by rfl) (by assumption) ?_ ?_
    rotate_left
    · (intro w hSw; (subst hSw); go_simp <;> with_reducible rfl)
    try simp only [Act.put, List.setIfInBounds_toArray, List.set_cons_zero, List.set_cons_succ]
    refine takeL 2 (v := ?_) rfl (by kernel_rfl) (by kernel_rfl) (by kernel_rfl) (fun _ _ _ h => h) (by rfl) (by assumption) ?_ ?_
    rotate_left
    · (intro w hSw; (subst hSw); go_simp <;> with_reducible rfl)
    try simp only [Act.put, List.setIfInBounds_toArray, List.set_cons_zero, List.set_cons_succ]
    refine idleL 3 rfl (by kernel_rfl) (by kernel_rfl) (by kernel_rfl) (fun _ _ _ h => h) (by rfl) (by assumption) ?_
    try simp only [Act.put, List.setIfInBounds_toArray, List.set_cons_zero, List.set_cons_succ]
    refine idleL 4 rfl (by kernel_rfl) (by kernel_rfl) (by kernel_rfl) (fun _ _ _ h => h) (by rfl) (by assumption) ?_
    try simp only [Act.put, List.setIfInBounds_toArray, List.set_cons_zero, List.set_cons_succ]
    refine idleL 5 rfl (by kernel_rfl) (by kernel_rfl) (by kernel_rfl) (fun _ _ _ h => h) (by rfl) (by assumption) ?_
    try simp only [Act.put, List.setIfInBounds_toArray, List.set_cons_zero, List.set_cons_succ]
    refine idleL 6 rfl (by kernel_rfl) (by kernel_rfl) (by kernel_rfl) (fun _ _ _ h => h) (by rfl) (by assumption) ?_
    try simp only [Act.put, List.setIfInBounds_toArray, List.set_cons_zero, List.set_cons_succ]
    refine idleL 7 rfl (by kernel_rfl) (by kernel_rfl) (by kernel_rfl) (fun _ _ _ h => h) (by rfl) (by assumption) ?_
    try simp only [Act.put, List.setIfInBounds_toArray, List.set_cons_zero, List.set_cons_succ]
    refine idleL 8 rfl (by kernel_rfl) (by kernel_rfl) (by kernel_rfl) (fun _ _ _ h => h) (by rfl) (by assumption) ?_
    try simp only [Act.put, List.setIfInBounds_toArray, List.set_cons_zero, List.set_cons_succ]
    refine idleL 9 rfl (by kernel_rfl) (by kernel_rfl) (by kernel_rfl) (fun _ _ _ h => h) (by rfl) (by assumption) ?_
    try simp only [Act.put, List.setIfInBounds_toArray, List.set_cons_zero, List.set_cons_succ]
    refine idleL 10 rfl (by kernel_rfl) (by kernel_rfl) (by kernel_rfl) (fun _ _ _ h => h) (by rfl) (by assumption) ?_
    try simp only [Act.put, List.setIfInBounds_toArray, List.set_cons_zero, List.set_cons_succ]
    refine idleL 11 rfl (by kernel_rfl) (by kernel_rfl) (by kernel_rfl) (fun _ _ _ h => h) (by rfl) (by assumption) ?_
    try simp only [Act.put, List.setIfInBounds_toArray, List.set_cons_zero, List.set_cons_succ]
    refine idleL 12 rfl (by kernel_rfl) (by kernel_rfl) (by kernel_rfl) (fun _ _ _ h => h) (by rfl) (by assumption) ?_
    try simp only [Act.put, List.setIfInBounds_toArray, List.set_cons_zero, List.set_cons_succ]
    refine idleL 13 rfl (by kernel_rfl) (by kernel_rfl) (by kernel_rfl) (fun _ _ _ h => h) (by rfl) (by assumption) ?_
    try simp only [Act.put, List.setIfInBounds_toArray, List.set_cons_zero, List.set_cons_succ]
    refine idleL 14 rfl (by kernel_rfl) (by kernel_rfl) (by kernel_rfl) (fun _ _ _ h => h) (by rfl) (by assumption) ?_
    try simp only [Act.put, List.setIfInBounds_toArray, List.set_cons_zero, List.set_cons_succ]
    refine takeL 15 (v := ?_) rfl (by kernel_rfl) (by kernel_rfl) (by kernel_rfl) (fun _ _ _ h => h) (by rfl) (by assumption) ?_ ?_
    rotate_left
    · (intro w hSw; (subst hSw); go_simp <;> with_reducible rfl)
    try simp only [Act.put, List.setIfInBounds_toArray, List.set_cons_zero, List.set_cons_succ]
    refine wpAnyH_done (by kernel_rfl) ?_ _
    go_wp2_with fail
    go_ret
    exact ⟨rfl, ⟨hI2.box, hI2.row, hI2.lo⟩, Chg.of_below _ hA2.drew⟩
  · obtain ⟨i, rfl, hi, bt9, lv9, tk9, hcl⟩ := hBt b0
    clear hBt
    rw [Int.toNat_natCast] at hFr
    have t1 : (((bt : Nat) : Int) == 0) = false := by rw [beq_eq_false_iff_ne]; omega
    obtain ⟨nn, hnn⟩ : ∃ n, S.length = n := ⟨_, rfl⟩
    obtain ⟨g, cap, rfl, hbg, hgl, hcap⟩ := hI.row.form (by omega)
    rw [hnn] at hi hcl hI hI1 hcap hl ⊢
    generalize hs : gS S i = s at *
    obtain ⟨x, lv, tk⟩ := s
    simp only [] at hFr lv9 tk9
    have t2 : bits .and .u64 ((lv : Nat) : Int) ((bt : Nat) : Int) = ((lv &&& bt : Nat) : Int) := u64_and_nat _ _ (by omega) (by omega)
    have i1 : decide (((i : Nat) : Int) < 0) = false := decide_eq_false (by omega)
    have i2 : ((i : Nat) : Int) < (nn : Int) := by omega
    by_cases a0 : lv &&& bt = 0
    · rw [if_pos (.inr a0)] at hFr
      subst hFr
      rw [a0] at t2
      clear hcl b0 a0
      go_enter Tryd.func45, Tryd.ntmps45
      go_wp2_with fail
      (try simp only [hC])
      generalize (w.alloc (.cells #[.int .i64 (i : Nat), .int .i64 ix, .int .i64 cl, .int .i64 mn, .bool fr] 62)) = W1 at *
      refine hBit.mono ?_
      rintro e w2 ⟨rfl, hb2⟩
      have hI2 := hI1.keep hb2
      have hA2 := hA.trans (hb2.mono hA.size)
      have hc6 := (OwnE.cell eS_len hI2.row hnn (i := i) (j := 5) hi (by omega)).1
      rw [show S.getD i default = (x, lv, tk) from hs] at hc6
      replace hc6 : w2.cell? ⟨g, i * 7 + 5, none⟩ = some (.int .u64 (lv : Nat)) := hc6
      have xB := hI2.box.cell
      have q0 := cellK5 p0 hb2
      clear hBit p0 p1 p2 p3 p4
      go_wp2_with fail
      refine wp_region_held_drew (S := (fun w' => w' = w2.drew)) (by kernel_rfl) ?_ (fun hHeld => ?_)
      · (try dsimp only)
        all_goals rfl
      refine takeL 0 (v := ?_) rfl (by kernel_rfl) (by kernel_rfl) (by kernel_rfl) (fun _ _ _ h => h) (by rfl) (by assumption) ?_ ?_
      rotate_left
      · (intro w hSw; (subst hSw); go_simp <;> with_reducible rfl)
      try simp only [Act.put, List.setIfInBounds_toArray, List.set_cons_zero, List.set_cons_succ]
      refine takeL 1 (v := ?_) rfl (by kernel_rfl) (by kernel_rfl) (by kernel_rfl) (fun _ _ _ h => h) (by rfl) (by assumption) ?_ ?_
      rotate_left
      · (intro w hSw; (subst hSw); go_simp <;> with_reducible rfl)
      try simp only [Act.put, List.setIfInBounds_toArray, List.set_cons_zero, List.set_cons_succ]
      refine takeL 2 (v := ?_) rfl (by kernel_rfl) (by kernel_rfl) (by kernel_rfl) (fun _ _ _ h => h) (by rfl) (by assumption) ?_ ?_
      rotate_left
      · (intro w hSw; (subst hSw); go_simp <;> with_reducible rfl)
      try simp only [Act.put, List.setIfInBounds_toArray, List.set_cons_zero, List.set_cons_succ]
      refine takeL 3 (v := ?_) rfl (by kernel_rfl) (by kernel_rfl) (by kernel_rfl) (fun _ _ _ h => h) (by rfl) (by assumption) ?_ ?_
      rotate_left
      · (intro w hSw; (subst hSw); go_simp <;> with_reducible rfl)
      try simp only [Act.put, List.setIfInBounds_toArray, List.set_cons_zero, List.set_cons_succ]
      refine takeL 4 (v := ?_) rfl (by kernel_rfl) (by kernel_rfl) (by kernel_rfl) (fun _ _ _ h => h) (by rfl) (by assumption) ?_ ?_
      rotate_left
      · (intro w hSw; (subst hSw); go_simp <;> with_reducible rfl)
      try simp only [Act.put, List.setIfInBounds_toArray, List.set_cons_zero, List.set_cons_succ]
      refine takeL 5 (v := ?_) rfl (by kernel_rfl) (by kernel_rfl) (by kernel_rfl) (fun _ _ _ h => h) (by rfl) (by assumption) ?_ ?_
      rotate_left
      · (intro w hSw; (subst hSw); go_simp <;> with_reducible rfl)
      try simp only [Act.put, List.setIfInBounds_toArray, List.set_cons_zero, List.set_cons_succ]
      refine takeL 6 (v := ?_) rfl (by kernel_rfl) (by kernel_rfl) (by kernel_rfl) (fun _ _ _ h => h) (by rfl) (by assumption) ?_ ?_
      rotate_left
      · (intro w hSw; (subst hSw); go_simp <;> with_reducible rfl)
      try simp only [Act.put, List.setIfInBounds_toArray, List.set_cons_zero, List.set_cons_succ]
      refine takeL 7 (v := ?_) rfl (by kernel_rfl) (by kernel_rfl) (by kernel_rfl) (fun _ _ _ h => h) (by rfl) (by assumption) ?_ ?_
      rotate_left
      · (intro w hSw; (subst hSw); go_simp <;> with_reducible rfl)
      try simp only [Act.put, List.setIfInBounds_toArray, List.set_cons_zero, List.set_cons_succ]
      refine takeL 8 (v := ?_) rfl (by kernel_rfl) (by kernel_rfl) (by kernel_rfl) (fun _ _ _ h => h) (by rfl) (by assumption) ?_ ?_
      rotate_left
      · (intro w hSw; (subst hSw); go_simp <;> with_reducible rfl)
      try simp only [Act.put, List.setIfInBounds_toArray, List.set_cons_zero, List.set_cons_succ]
      refine takeL 9 (v := ?_) rfl (by kernel_rfl) (by kernel_rfl) (by kernel_rfl) (fun _ _ _ h => h) (by rfl) (by assumption) ?_ ?_
      rotate_left
      · (intro w hSw; (subst hSw); go_simp <;> with_reducible rfl)
      try simp only [Act.put, List.setIfInBounds_toArray, List.set_cons_zero, List.set_cons_succ]
      refine takeL 10 (v := ?_) rfl (by kernel_rfl) (by kernel_rfl) (by kernel_rfl) (fun _ _ _ h => h) (by rfl) (by assumption) ?_ ?_
      rotate_left
      · (intro w hSw; (subst hSw); go_simp <;> with_reducible rfl)
      try simp only [Act.put, List.setIfInBounds_toArray, List.set_cons_zero, List.set_cons_succ]
      refine takeL 11 (v := ?_) rfl (by kernel_rfl) (by kernel_rfl) (by kernel_rfl) (fun _ _ _ h => h) (by rfl) (by assumption) ?_ ?_
      rotate_left
      · (intro w hSw; (subst hSw); go_simp <;> with_reducible rfl)
      try simp only [Act.put, List.setIfInBounds_toArray, List.set_cons_zero, List.set_cons_succ]
      refine takeL 12 (v := ?_) rfl (by kernel_rfl) (by kernel_rfl) (by kernel_rfl) (fun _ _ _ h => h) (by rfl) (by assumption) ?_ ?_
      rotate_left
      · (intro w hSw; (subst hSw); go_simp <;> with_reducible rfl)
      try simp only [Act.put, List.setIfInBounds_toArray, List.set_cons_zero, List.set_cons_succ]
      refine takeL 13 (v := ?_) rfl (by kernel_rfl) (by kernel_rfl) (by kernel_rfl) (fun _ _ _ h => h) (by rfl) (by assumption) ?_ ?_
      rotate_left
      · (intro w hSw; (subst hSw); go_simp <;> with_reducible rfl)
      try simp only [Act.put, List.setIfInBounds_toArray, List.set_cons_zero, List.set_cons_succ]
      refine takeL 14 (v := ?_) rfl (by kernel_rfl) (by kernel_rfl) (by kernel_rfl) (fun _ _ _ h => h) (by rfl) (by assumption) ?_ ?_
      rotate_left
      · (intro w hSw; (subst hSw); go_simp <;> with_reducible rfl)
      try simp only [Act.put, List.setIfInBounds_toArray, List.set_cons_zero, List.set_cons_succ]
      refine takeL 15 (v := ?_) rfl (by kernel_rfl) (by kernel_rfl) (by kernel_rfl) (fun _ _ _ h => h) (by rfl) (by assumption) ?_ ?_
      rotate_left
      · (intro w hSw; (subst hSw); go_simp <;> with_reducible rfl)
      try simp only [Act.put, List.setIfInBounds_toArray, List.set_cons_zero, List.set_cons_succ]
      refine wpAnyH_done (by kernel_rfl) ?_ _
      go_wp2_with fail
      go_ret
      exact ⟨rfl, ⟨hI2.box, hI2.row, hI2.lo⟩, Chg.of_below _ hA2.drew⟩
    · have t3 : ((((lv &&& bt : Nat) : Int)) == 0) = false := by rw [beq_eq_false_iff_ne]; omega
      rw [if_neg (fun q => q.elim b0 a0)] at hFr
      have t4 : bits .andNot .u64 ((lv : Nat) : Int) ((bt : Nat) : Int) = (clrN lv bt : Nat) := andNot_clr (by omega) (by omega)
      subst hFr
      generalize clrN lv bt = nv at *
      generalize lv &&& bt = an at *
      clear b0 a0
      go_enter Tryd.func45, Tryd.ntmps45
      go_wp2_with fail
      (try simp only [hC])
      generalize (w.alloc (.cells #[.int .i64 (i : Nat), .int .i64 ix, .int .i64 cl, .int .i64 mn, .bool fr] 62)) = W1 at *
      refine hBit.mono ?_
      rintro e w2 ⟨rfl, hb2⟩
      have hI2 := hI1.keep hb2
      have hA2 := hA.trans (hb2.mono hA.size)
      obtain ⟨hc6, hf6⟩ := OwnE.cell eS_len hI2.row hnn (i := i) (j := 5) hi (by omega)
      rw [show S.getD i default = (x, lv, tk) from hs] at hc6
      replace hc6 : w2.cell? ⟨g, i * 7 + 5, none⟩ = some (.int .u64 (lv : Nat)) := hc6
      have xB := hI2.box.cell
      have q0 := cellK5 p0 hb2
      have q1 := cellK5 p1 hb2
      have q2 := cellK5 p2 hb2
      have q3 := cellK5 p3 hb2
      have q4 := cellK5 p4 hb2
      obtain ⟨hI3, hC3⟩ := IxAt.set (w := w2.drew.drew) (s := (x, nv, tk)) ⟨hI2.box, hI2.row, hI2.lo⟩ hnn hi (j := 5) (by omega) (u := .int .u64 (nv : Nat)) (by rw [hs]; rfl)
      have hgC : ¬ C = g := by omega
      obtain ⟨z0, z1, z2, z3, z4⟩ : (w2.drew.drew.setCell ⟨g, i * 7 + 5, none⟩ (.int .u64 (nv : Nat))).cell? ⟨C, 0, none⟩ = some (.int .i64 (i : Nat)) ∧ (w2.drew.drew.setCell ⟨g, i * 7 + 5, none⟩ (.int .u64 (nv : Nat))).cell? ⟨C, 1, none⟩ = some (.int .i64 ix) ∧ (w2.drew.drew.setCell ⟨g, i * 7 + 5, none⟩ (.int .u64 (nv : Nat))).cell? ⟨C, 2, none⟩ = some (.int .i64 cl) ∧ (w2.drew.drew.setCell ⟨g, i * 7 + 5, none⟩ (.int .u64 (nv : Nat))).cell? ⟨C, 3, none⟩ = some (.int .i64 mn) ∧ (w2.drew.drew.setCell ⟨g, i * 7 + 5, none⟩ (.int .u64 (nv : Nat))).cell? ⟨C, 4, none⟩ = some (.bool fr) := by
        exact ⟨(World.cell?_of_block (hC3.block C (World.block_lt_of_cell? _ _ q0) hgC)).trans q0, (World.cell?_of_block (hC3.block C (World.block_lt_of_cell? _ _ q0) hgC)).trans q1, (World.cell?_of_block (hC3.block C (World.block_lt_of_cell? _ _ q0) hgC)).trans q2, (World.cell?_of_block (hC3.block C (World.block_lt_of_cell? _ _ q0) hgC)).trans q3, (World.cell?_of_block (hC3.block C (World.block_lt_of_cell? _ _ q0) hgC)).trans q4⟩
      have hV := vac_any hI3 (i : Nat) ix cl mn fr (by rw [List.length_set, hnn]; exact hcl) (by rw [List.length_set, hnn]; exact hl)
      clear hBit p0 p1 p2 p3 p4
      have eW : w2.drew.drew.setCell ⟨g, i * 7 + 5, none⟩ (.int .u64 (nv : Nat)) = (w2.setCell ⟨g, i * 7 + 5, none⟩ (.int .u64 (nv : Nat))).drew.drew := rfl
      rw [eW] at hV hC3 z0 z1 z2 z3 z4
      clear eW hI3
      go_wp2_with fail
      refine wp_region_held_drew (S := (fun w' => w' = w2.drew)) (by kernel_rfl) ?_ (fun hHeld => ?_)
      · (try dsimp only)
        all_goals rfl
      refine takeL 0 (v := ?_) rfl (by kernel_rfl) (by kernel_rfl) (by kernel_rfl) (fun _ _ _ h => h) (by rfl) (by assumption) ?_ ?_
      rotate_left
      · (intro w hSw; (subst hSw); go_simp <;> with_reducible rfl)
      try simp only [Act.put, List.setIfInBounds_toArray, List.set_cons_zero, List.set_cons_succ]
      refine takeL 1 (v := ?_) rfl (by kernel_rfl) (by kernel_rfl) (by kernel_rfl) (fun _ _ _ h => h) (by rfl) (by assumption) ?_ ?_
      rotate_left
      · (intro w hSw; (subst hSw); go_simp <;> with_reducible rfl)
      try simp only [Act.put, List.setIfInBounds_toArray, List.set_cons_zero, List.set_cons_succ]
      refine takeL 2 (v := ?_) rfl (by kernel_rfl) (by kernel_rfl) (by kernel_rfl) (fun _ _ _ h => h) (by rfl) (by assumption) ?_ ?_
      rotate_left
      · (intro w hSw; (subst hSw); go_simp <;> with_reducible rfl)
      try simp only [Act.put, List.setIfInBounds_toArray, List.set_cons_zero, List.set_cons_succ]
      refine takeL 3 (v := ?_) rfl (by kernel_rfl) (by kernel_rfl) (by kernel_rfl) (fun _ _ _ h => h) (by rfl) (by assumption) ?_ ?_
      rotate_left
      · (intro w hSw; (subst hSw); go_simp <;> with_reducible rfl)
      try simp only [Act.put, List.setIfInBounds_toArray, List.set_cons_zero, List.set_cons_succ]
      refine takeL 4 (v := ?_) rfl (by kernel_rfl) (by kernel_rfl) (by kernel_rfl) (fun _ _ _ h => h) (by rfl) (by assumption) ?_ ?_
      rotate_left
      · (intro w hSw; (subst hSw); go_simp <;> with_reducible rfl)
      try simp only [Act.put, List.setIfInBounds_toArray, List.set_cons_zero, List.set_cons_succ]
      refine takeL 5 (v := ?_) rfl (by kernel_rfl) (by kernel_rfl) (by kernel_rfl) (fun _ _ _ h => h) (by rfl) (by assumption) ?_ ?_
      rotate_left
      · (intro w hSw; (subst hSw); go_simp <;> with_reducible rfl)
      try simp only [Act.put, List.setIfInBounds_toArray, List.set_cons_zero, List.set_cons_succ]
      refine takeL 6 (v := ?_) rfl (by kernel_rfl) (by kernel_rfl) (by kernel_rfl) (fun _ _ _ h => h) (by rfl) (by assumption) ?_ ?_
      rotate_left
      · (intro w hSw; (subst hSw); go_simp <;> with_reducible rfl)
      try simp only [Act.put, List.setIfInBounds_toArray, List.set_cons_zero, List.set_cons_succ]
      refine takeL 7 (v := ?_) rfl (by kernel_rfl) (by kernel_rfl) (by kernel_rfl) (fun _ _ _ h => h) (by rfl) (by assumption) ?_ ?_
      rotate_left
      · (intro w hSw; (subst hSw); go_simp <;> with_reducible rfl)
      try simp only [Act.put, List.setIfInBounds_toArray, List.set_cons_zero, List.set_cons_succ]
      refine takeL 8 (v := ?_) rfl (by kernel_rfl) (by kernel_rfl) (by kernel_rfl) (fun _ _ _ h => h) (by rfl) (by assumption) ?_ ?_
      rotate_left
      · (intro w hSw; (subst hSw); go_simp <;> with_reducible rfl)
      try simp only [Act.put, List.setIfInBounds_toArray, List.set_cons_zero, List.set_cons_succ]
      refine takeL 9 (v := ?_) rfl (by kernel_rfl) (by kernel_rfl) (by kernel_rfl) (fun _ _ _ h => h) (by rfl) (by assumption) ?_ ?_
      rotate_left
      · (intro w hSw; (subst hSw); go_simp <;> with_reducible rfl)
      try simp only [Act.put, List.setIfInBounds_toArray, List.set_cons_zero, List.set_cons_succ]
      refine takeL 10 (v := ?_) rfl (by kernel_rfl) (by kernel_rfl) (by kernel_rfl) (fun _ _ _ h => h) (by rfl) (by assumption) ?_ ?_
      rotate_left
      · (intro w hSw; (subst hSw); go_simp <;> with_reducible rfl)
      try simp only [Act.put, List.setIfInBounds_toArray, List.set_cons_zero, List.set_cons_succ]
      refine takeL 11 (v := ?_) rfl (by kernel_rfl) (by kernel_rfl) (by kernel_rfl) (fun _ _ _ h => h) (by rfl) (by assumption) ?_ ?_
      rotate_left
      · (intro w hSw; (subst hSw); go_simp <;> with_reducible rfl)
      try simp only [Act.put, List.setIfInBounds_toArray, List.set_cons_zero, List.set_cons_succ]
      refine takeL 12 (v := ?_) rfl (by kernel_rfl) (by kernel_rfl) (by kernel_rfl) (fun _ _ _ h => h) (by rfl) (by assumption) ?_ ?_
      rotate_left
      · (intro w hSw; (subst hSw); go_simp <;> with_reducible rfl)
      try simp only [Act.put, List.setIfInBounds_toArray, List.set_cons_zero, List.set_cons_succ]
      refine takeL 13 (v := ?_) rfl (by kernel_rfl) (by kernel_rfl) (by kernel_rfl) (fun _ _ _ h => h) (by rfl) (by assumption) ?_ ?_
      rotate_left
      · (intro w hSw; (subst hSw); go_simp <;> with_reducible rfl)
      try simp only [Act.put, List.setIfInBounds_toArray, List.set_cons_zero, List.set_cons_succ]
      refine takeL 14 (v := ?_) rfl (by kernel_rfl) (by kernel_rfl) (by kernel_rfl) (fun _ _ _ h => h) (by rfl) (by assumption) ?_ ?_
      rotate_left
      · (intro w hSw; (subst hSw); go_simp <;> with_reducible rfl)
      try simp only [Act.put, List.setIfInBounds_toArray, List.set_cons_zero, List.set_cons_succ]
      refine takeL 15 (v := ?_) rfl (by kernel_rfl) (by kernel_rfl) (by kernel_rfl) (fun _ _ _ h => h) (by rfl) (by assumption) ?_ ?_
      rotate_left
      · (intro w hSw; (subst hSw); go_simp <;> with_reducible rfl)
      try simp only [Act.put, List.setIfInBounds_toArray, List.set_cons_zero, List.set_cons_succ]
      refine wpAnyH_done (by kernel_rfl) ?_ _
      go_wp2_with fail
      refine wp_region_tail (S := (fun w' => w' = w2.drew.drew)) (n := 13) (by kernel_rfl) ?_ (fun hHeld hInv => ?_) (by decide)
      · (try dsimp only)
        all_goals rfl
      refine takeS 0 (v := ?_) (tailAt (by kernel_rfl)) hInv (by decide) rfl (by kernel_rfl) (by kernel_rfl) (by kernel_rfl) (fun _ _ _ h => h) (by rfl) (by assumption) ?_ (fun hInv2 => ?_)
      rotate_left
      · (intro w hSw; (try dsimp only at hSw); (subst hSw); go_simp <;> with_reducible rfl)
      clear hInv
      have hInv := hInv2
      clear hInv2
      try simp only [Act.put, List.setIfInBounds_toArray, List.set_cons_zero, List.set_cons_succ] at hInv ⊢
      refine takeS 1 (v := ?_) (tailAt (by kernel_rfl)) hInv (by decide) rfl (by kernel_rfl) (by kernel_rfl) (by kernel_rfl) (fun _ _ _ h => h) (by rfl) (by assumption) ?_ (fun hInv2 => ?_)
      rotate_left
      · (intro w hSw; (try dsimp only at hSw); (subst hSw); go_simp <;> with_reducible rfl)
      clear hInv
      have hInv := hInv2
      clear hInv2
      try simp only [Act.put, List.setIfInBounds_toArray, List.set_cons_zero, List.set_cons_succ] at hInv ⊢
      refine takeS 2 (v := ?_) (tailAt (by kernel_rfl)) hInv (by decide) rfl (by kernel_rfl) (by kernel_rfl) (by kernel_rfl) (fun _ _ _ h => h) (by rfl) (by assumption) ?_ (fun hInv2 => ?_)
      rotate_left
      · (intro w hSw; (try dsimp only at hSw); (subst hSw); go_simp <;> with_reducible rfl)
      clear hInv
      have hInv := hInv2
      clear hInv2
      try simp only [Act.put, List.setIfInBounds_toArray, List.set_cons_zero, List.set_cons_succ] at hInv ⊢
      refine takeS 3 (v := ?_) (tailAt (by kernel_rfl)) hInv (by decide) rfl (by kernel_rfl) (by kernel_rfl) (by kernel_rfl) (fun _ _ _ h => h) (by rfl) (by assumption) ?_ (fun hInv2 => ?_)
      rotate_left
      · (intro w hSw; (try dsimp only at hSw); (subst hSw); go_simp <;> with_reducible rfl)
      clear hInv
      have hInv := hInv2
      clear hInv2
      try simp only [Act.put, List.setIfInBounds_toArray, List.set_cons_zero, List.set_cons_succ] at hInv ⊢
      refine takeS 4 (v := ?_) (tailAt (by kernel_rfl)) hInv (by decide) rfl (by kernel_rfl) (by kernel_rfl) (by kernel_rfl) (fun _ _ _ h => h) (by rfl) (by assumption) ?_ (fun hInv2 => ?_)
      rotate_left
      · (intro w hSw; (try dsimp only at hSw); (subst hSw); go_simp <;> with_reducible rfl)
      clear hInv
      have hInv := hInv2
      clear hInv2
      try simp only [Act.put, List.setIfInBounds_toArray, List.set_cons_zero, List.set_cons_succ] at hInv ⊢
      refine takeS 5 (v := ?_) (tailAt (by kernel_rfl)) hInv (by decide) rfl (by kernel_rfl) (by kernel_rfl) (by kernel_rfl) (fun _ _ _ h => h) (by rfl) (by assumption) ?_ (fun hInv2 => ?_)
      rotate_left
      · (intro w hSw; (try dsimp only at hSw); (subst hSw); go_simp <;> with_reducible rfl)
      clear hInv
      have hInv := hInv2
      clear hInv2
      try simp only [Act.put, List.setIfInBounds_toArray, List.set_cons_zero, List.set_cons_succ] at hInv ⊢
      refine takeS 6 (v := ?_) (tailAt (by kernel_rfl)) hInv (by decide) rfl (by kernel_rfl) (by kernel_rfl) (by kernel_rfl) (fun _ _ _ h => h) (by rfl) (by assumption) ?_ (fun hInv2 => ?_)
      rotate_left
      · (intro w hSw; (try dsimp only at hSw); (subst hSw); go_simp <;> with_reducible rfl)
      clear hInv
      have hInv := hInv2
      clear hInv2
      try simp only [Act.put, List.setIfInBounds_toArray, List.set_cons_zero, List.set_cons_succ] at hInv ⊢
      refine takeS 7 (v := ?_) (tailAt (by kernel_rfl)) hInv (by decide) rfl (by kernel_rfl) (by kernel_rfl) (by kernel_rfl) (fun _ _ _ h => h) (by rfl) (by assumption) ?_ (fun hInv2 => ?_)
      rotate_left
      · (intro w hSw; (try dsimp only at hSw); (subst hSw); go_simp <;> with_reducible rfl)
      clear hInv
      have hInv := hInv2
      clear hInv2
      try simp only [Act.put, List.setIfInBounds_toArray, List.set_cons_zero, List.set_cons_succ] at hInv ⊢
      refine takeS 8 (v := ?_) (tailAt (by kernel_rfl)) hInv (by decide) rfl (by kernel_rfl) (by kernel_rfl) (by kernel_rfl) (fun _ _ _ h => h) (by rfl) (by assumption) ?_ (fun hInv2 => ?_)
      rotate_left
      · (intro w hSw; (try dsimp only at hSw); (subst hSw); go_simp <;> with_reducible rfl)
      clear hInv
      have hInv := hInv2
      clear hInv2
      try simp only [Act.put, List.setIfInBounds_toArray, List.set_cons_zero, List.set_cons_succ] at hInv ⊢
      refine takeS 9 (v := ?_) (tailAt (by kernel_rfl)) hInv (by decide) rfl (by kernel_rfl) (by kernel_rfl) (by kernel_rfl) (fun _ _ _ h => h) (by rfl) (by assumption) ?_ (fun hInv2 => ?_)
      rotate_left
      · (intro w hSw; (try dsimp only at hSw); (subst hSw); go_simp <;> with_reducible rfl)
      clear hInv
      have hInv := hInv2
      clear hInv2
      try simp only [Act.put, List.setIfInBounds_toArray, List.set_cons_zero, List.set_cons_succ] at hInv ⊢
      refine takeS 10 (v := ?_) (tailAt (by kernel_rfl)) hInv (by decide) rfl (by kernel_rfl) (by kernel_rfl) (by kernel_rfl) (fun _ _ _ h => h) (by rfl) (by assumption) ?_ (fun hInv2 => ?_)
      rotate_left
      · (intro w hSw; (try dsimp only at hSw); (subst hSw); go_simp <;> with_reducible rfl)
      clear hInv
      have hInv := hInv2
      clear hInv2
      try simp only [Act.put, List.setIfInBounds_toArray, List.set_cons_zero, List.set_cons_succ] at hInv ⊢
      refine takeS 11 (v := ?_) (tailAt (by kernel_rfl)) hInv (by decide) rfl (by kernel_rfl) (by kernel_rfl) (by kernel_rfl) (fun _ _ _ h => h) (by rfl) (by assumption) ?_ (fun hInv2 => ?_)
      rotate_left
      · (intro w hSw; (try dsimp only at hSw); (subst hSw); go_simp <;> with_reducible rfl)
      clear hInv
      have hInv := hInv2
      clear hInv2
      try simp only [Act.put, List.setIfInBounds_toArray, List.set_cons_zero, List.set_cons_succ] at hInv ⊢
      refine takeS 12 (v := ?_) (tailAt (by kernel_rfl)) hInv (by decide) rfl (by kernel_rfl) (by kernel_rfl) (by kernel_rfl) (fun _ _ _ h => h) (by rfl) (by assumption) ?_ (fun hInv2 => ?_)
      rotate_left
      · (intro w hSw; (try dsimp only at hSw); (subst hSw); go_simp <;> with_reducible rfl)
      clear hInv
      have hInv := hInv2
      clear hInv2
      try simp only [Act.put, List.setIfInBounds_toArray, List.set_cons_zero, List.set_cons_succ] at hInv ⊢
      refine lastS 13 rfl (by decide) (by kernel_rfl) (fun K hK => ?_)
      go_simp
      refine hK.out _ _ ?_
      clear hK K
      try simp only [Act.put, List.setIfInBounds_toArray, List.set_cons_zero, List.set_cons_succ]
      refine wpAnyS_done (by kernel_rfl) ?_ _
      go_wp2_with fail
      refine hV.mono ?_
      rintro e w5 ⟨rfl, hI5, hC5⟩
      go_wp2_with fail
      go_ret
      exact ⟨rfl, hI5, ((Chg.of_below _ hA2.drew.drew).trans hC3 (fun j q => .inl (by rw [q]; rfl))).trans hC5 (fun j q => .inl q)⟩

set_option maxRecDepth 10000 in
set_option maxHeartbeats 1000000 in
theorem drop_any {w : World} {base B : Nat} {v : Value} {S : List St} (hI : IxAt w base B v S) (hS : SOk S) (ch ix cl mn : Int) (fr : Bool) (hl : S.length ≤ 10000) (hw : Lw w) :
    Calls Tryd.prog 41 #[.pointer (some ⟨B, 0, none⟩), .agg #[.int .i64 ch, .int .i64 ix, .int .i64 cl, .int .i64 mn, .bool fr]] w fun e w' => e = .returned (.bool (dropS S ch ix cl mn).1) ∧ IxAt w' base B v (dropS S ch ix cl mn).2 ∧ Chg (fun k => v.ownBlock = some k) w w' := by
  have hA := (Below.refl w.heap.size w).alloc (Nat.le_refl _) (.cells #[.int .i64 ch, .int .i64 ix, .int .i64 cl, .int .i64 mn, .bool fr] 62)
  have hI1 := hI.keep hA
  have hBit := ixBit_any hI1 ch ix cl mn fr hl (hw.keep hA)
  obtain ⟨C, hC⟩ : ∃ C, w.heap.size = C := ⟨_, rfl⟩
  obtain ⟨p0, p1, p2, p3, p4⟩ : (w.alloc (.cells #[.int .i64 ch, .int .i64 ix, .int .i64 cl, .int .i64 mn, .bool fr] 62)).cell? ⟨C, 0, none⟩ = some (.int .i64 ch) ∧ (w.alloc (.cells #[.int .i64 ch, .int .i64 ix, .int .i64 cl, .int .i64 mn, .bool fr] 62)).cell? ⟨C, 1, none⟩ = some (.int .i64 ix) ∧ (w.alloc (.cells #[.int .i64 ch, .int .i64 ix, .int .i64 cl, .int .i64 mn, .bool fr] 62)).cell? ⟨C, 2, none⟩ = some (.int .i64 cl) ∧ (w.alloc (.cells #[.int .i64 ch, .int .i64 ix, .int .i64 cl, .int .i64 mn, .bool fr] 62)).cell? ⟨C, 3, none⟩ = some (.int .i64 mn) ∧ (w.alloc (.cells #[.int .i64 ch, .int .i64 ix, .int .i64 cl, .int .i64 mn, .bool fr] 62)).cell? ⟨C, 4, none⟩ = some (.bool fr) := by
    rw [← hC]; refine ⟨?_, ?_, ?_, ?_, ?_⟩ <;> simp [go_sem]
  have hFr : dropS S ch ix cl mn = (if bitS S ch ix cl mn = 0 ∨ (gS S ch.toNat).2.2 &&& bitS S ch ix cl mn = 0 then (false, S) else (true, vacS (S.set ch.toNat ((gS S ch.toNat).1, (gS S ch.toNat).2.1, clrN (gS S ch.toNat).2.2 (bitS S ch ix cl mn))) ch cl mn)) := rfl
  have hBt := bit_there hS (ch := ch) (ix := ix) (cl := cl) (mn := mn)
  generalize dropS S ch ix cl mn = r at *
  generalize bitS S ch ix cl mn = bt at *
  clear hS hw
  by_cases b0 : bt = 0
  · have t1 : (((bt : Nat) : Int) == 0) = true := by rw [beq_iff_eq]; omega
    rw [if_pos (.inl b0)] at hFr
    subst hFr
    clear hBt b0 hl
    go_enter Tryd.func41, Tryd.ntmps41
    go_wp2_with fail
    (try simp only [hC])
    generalize (w.alloc (.cells #[.int .i64 ch, .int .i64 ix, .int .i64 cl, .int .i64 mn, .bool fr] 62)) = W1 at *
    refine hBit.mono ?_
    rintro e w2 ⟨rfl, hb2⟩
    have hI2 := hI1.keep hb2
    have hA2 := hA.trans (hb2.mono hA.size)
    clear hBit
    go_wp2_with fail
    refine wp_region_held_drew (S := (fun w' => w' = w2.drew)) (by kernel_rfl) ?_ (fun hHeld => ?_)
    · (try dsimp only)
      all_goals rfl
    refine takeL 0 (v := ?_) rfl (by kernel_rfl) (by kernel_rfl) (by kernel_rfl) (fun _ _ _ h => h) (by rfl) (by assumption) ?_ ?_
    rotate_left
    · (intro w hSw; (subst hSw); go_simp <;> with_reducible rfl)
    try simp only [Act.put, List.setIfInBounds_toArray, List.set_cons_zero, List.set_cons_succ]
    refine takeL 1 (v := ?_) rfl (by kernel_rfl) (by kernel_rfl) (by kernel_rfl) (fun _ _ _ h => h) (by rfl) (by assumption) ?_ ?_
    rotate_left
    · (intro w hSw; (subst hSw); go_simp <;> with_reducible rfl)
    try simp only [Act.put, List.setIfInBounds_toArray, List.set_cons_zero, List.set_cons_succ]
    refine takeL 2 (v := ?_) rfl (by kernel_rfl) (by kernel_rfl) (by kernel_rfl) (fun _ _ _ h => h) (by rfl) (by assumption) ?_ ?_
    rotate_left
    · (intro w hSw; (subst hSw); go_simp <;> with_reducible rfl)
    try simp only [Act.put, List.setIfInBounds_toArray, List.set_cons_zero, List.set_cons_succ]
    refine idleL 3 rfl (by kernel_rfl) (by kernel_rfl) (by kernel_rfl) (fun _ _ _ h => h) (by rfl) (by assumption) ?_
    try simp only [Act.put, List.setIfInBounds_toArray, List.set_cons_zero, List.set_cons_succ]
    refine idleL 4 rfl (by kernel_rfl) (by kernel_rfl) (by kernel_rfl) (fun _ _ _ h => h) (by rfl) (by assumption) ?_
    try simp only [Act.put, List.setIfInBounds_toArray, List.set_cons_zero, List.set_cons_succ]
    refine idleL 5 rfl (by kernel_rfl) (by kernel_rfl) (by kernel_rfl) (fun _ _ _ h => h) (by rfl) (by assumption) ?_
    try simp only [Act.put, List.setIfInBounds_toArray, List.set_cons_zero, List.set_cons_succ]
    refine idleL 6 rfl (by kernel_rfl) (by kernel_rfl) (by kernel_rfl) (fun _ _ _ h => h) (by rfl) (by assumption) ?_
    try simp only [Act.put, List.setIfInBounds_toArray, List.set_cons_zero, List.set_cons_succ]
    refine idleL 7 rfl (by kernel_rfl) (by kernel_rfl) (by kernel_rfl) (fun _ _ _ h => h) (by rfl) (by assumption) ?_
    try simp only [Act.put, List.setIfInBounds_toArray, List.set_cons_zero, List.set_cons_succ]
    refine idleL 8 rfl (by kernel_rfl) (by kernel_rfl) (by kernel_rfl) (fun _ _ _ h => h) (by rfl) (by assumption) ?_
    try simp only [Act.put, List.setIfInBounds_toArray, List.set_cons_zero, List.set_cons_succ]
    refine idleL 9 rfl (by kernel_rfl) (by kernel_rfl) (by kernel_rfl) (fun _ _ _ h => h) (by rfl) (by assumption) ?_
    try simp only [Act.put, List.setIfInBounds_toArray, List.set_cons_zero, List.set_cons_succ]
    refine idleL 10 rfl (by kernel_rfl) (by kernel_rfl) (by kernel_rfl) (fun _ _ _ h => h) (by rfl) (by assumption) ?_
    try simp only [Act.put, List.setIfInBounds_toArray, List.set_cons_zero, List.set_cons_succ]
    refine idleL 11 rfl (by kernel_rfl) (by kernel_rfl) (by kernel_rfl) (fun _ _ _ h => h) (by rfl) (by assumption) ?_
    try simp only [Act.put, List.setIfInBounds_toArray, List.set_cons_zero, List.set_cons_succ]
    refine idleL 12 rfl (by kernel_rfl) (by kernel_rfl) (by kernel_rfl) (fun _ _ _ h => h) (by rfl) (by assumption) ?_
    try simp only [Act.put, List.setIfInBounds_toArray, List.set_cons_zero, List.set_cons_succ]
    refine idleL 13 rfl (by kernel_rfl) (by kernel_rfl) (by kernel_rfl) (fun _ _ _ h => h) (by rfl) (by assumption) ?_
    try simp only [Act.put, List.setIfInBounds_toArray, List.set_cons_zero, List.set_cons_succ]
    refine idleL 14 rfl (by kernel_rfl) (by kernel_rfl) (by kernel_rfl) (fun _ _ _ h => h) (by rfl) (by assumption) ?_
    try simp only [Act.put, List.setIfInBounds_toArray, List.set_cons_zero, List.set_cons_succ]
    refine takeL 15 (v := ?_) rfl (by kernel_rfl) (by kernel_rfl) (by kernel_rfl) (fun _ _ _ h => h) (by rfl) (by assumption) ?_ ?_
    rotate_left
    · (intro w hSw; (subst hSw); go_simp <;> with_reducible rfl)
    try simp only [Act.put, List.setIfInBounds_toArray, List.set_cons_zero, List.set_cons_succ]
    refine wpAnyH_done (by kernel_rfl) ?_ _
    go_wp2_with fail
    go_ret
    exact ⟨rfl, ⟨hI2.box, hI2.row, hI2.lo⟩, Chg.of_below _ hA2.drew⟩
  · obtain ⟨i, rfl, hi, bt9, lv9, tk9, hcl⟩ := hBt b0
    clear hBt
    rw [Int.toNat_natCast] at hFr
    have t1 : (((bt : Nat) : Int) == 0) = false := by rw [beq_eq_false_iff_ne]; omega
    obtain ⟨nn, hnn⟩ : ∃ n, S.length = n := ⟨_, rfl⟩
    obtain ⟨g, cap, rfl, hbg, hgl, hcap⟩ := hI.row.form (by omega)
    rw [hnn] at hi hcl hI hI1 hcap hl ⊢
    generalize hs : gS S i = s at *
    obtain ⟨x, lv, tk⟩ := s
    simp only [] at hFr lv9 tk9
    have t2 : bits .and .u64 ((tk : Nat) : Int) ((bt : Nat) : Int) = ((tk &&& bt : Nat) : Int) := u64_and_nat _ _ (by omega) (by omega)
    have i1 : decide (((i : Nat) : Int) < 0) = false := decide_eq_false (by omega)
    have i2 : ((i : Nat) : Int) < (nn : Int) := by omega
    by_cases a0 : tk &&& bt = 0
    · rw [if_pos (.inr a0)] at hFr
      subst hFr
      rw [a0] at t2
      clear hcl b0 a0
      go_enter Tryd.func41, Tryd.ntmps41
      go_wp2_with fail
      (try simp only [hC])
      generalize (w.alloc (.cells #[.int .i64 (i : Nat), .int .i64 ix, .int .i64 cl, .int .i64 mn, .bool fr] 62)) = W1 at *
      refine hBit.mono ?_
      rintro e w2 ⟨rfl, hb2⟩
      have hI2 := hI1.keep hb2
      have hA2 := hA.trans (hb2.mono hA.size)
      have hc6 := (OwnE.cell eS_len hI2.row hnn (i := i) (j := 6) hi (by omega)).1
      rw [show S.getD i default = (x, lv, tk) from hs] at hc6
      replace hc6 : w2.cell? ⟨g, i * 7 + 6, none⟩ = some (.int .u64 (tk : Nat)) := hc6
      have xB := hI2.box.cell
      have q0 := cellK5 p0 hb2
      clear hBit p0 p1 p2 p3 p4
      go_wp2_with fail
      refine wp_region_held_drew (S := (fun w' => w' = w2.drew)) (by kernel_rfl) ?_ (fun hHeld => ?_)
      · (try dsimp only)
        all_goals rfl
      refine takeL 0 (v := ?_) rfl (by kernel_rfl) (by kernel_rfl) (by kernel_rfl) (fun _ _ _ h => h) (by rfl) (by assumption) ?_ ?_
      rotate_left
      · (intro w hSw; (subst hSw); go_simp <;> with_reducible rfl)
      try simp only [Act.put, List.setIfInBounds_toArray, List.set_cons_zero, List.set_cons_succ]
      refine takeL 1 (v := ?_) rfl (by kernel_rfl) (by kernel_rfl) (by kernel_rfl) (fun _ _ _ h => h) (by rfl) (by assumption) ?_ ?_
      rotate_left
      · (intro w hSw; (subst hSw); go_simp <;> with_reducible rfl)
      try simp only [Act.put, List.setIfInBounds_toArray, List.set_cons_zero, List.set_cons_succ]
      refine takeL 2 (v := ?_) rfl (by kernel_rfl) (by kernel_rfl) (by kernel_rfl) (fun _ _ _ h => h) (by rfl) (by assumption) ?_ ?_
      rotate_left
      · (intro w hSw; (subst hSw); go_simp <;> with_reducible rfl)
      try simp only [Act.put, List.setIfInBounds_toArray, List.set_cons_zero, List.set_cons_succ]
      refine takeL 3 (v := ?_) rfl (by kernel_rfl) (by kernel_rfl) (by kernel_rfl) (fun _ _ _ h => h) (by rfl) (by assumption) ?_ ?_
      rotate_left
      · (intro w hSw; (subst hSw); go_simp <;> with_reducible rfl)
      try simp only [Act.put, List.setIfInBounds_toArray, List.set_cons_zero, List.set_cons_succ]
      refine takeL 4 (v := ?_) rfl (by kernel_rfl) (by kernel_rfl) (by kernel_rfl) (fun _ _ _ h => h) (by rfl) (by assumption) ?_ ?_
      rotate_left
      · (intro w hSw; (subst hSw); go_simp <;> with_reducible rfl)
      try simp only [Act.put, List.setIfInBounds_toArray, List.set_cons_zero, List.set_cons_succ]
      refine takeL 5 (v := ?_) rfl (by kernel_rfl) (by kernel_rfl) (by kernel_rfl) (fun _ _ _ h => h) (by rfl) (by assumption) ?_ ?_
      rotate_left
      · (intro w hSw; (subst hSw); go_simp <;> with_reducible rfl)
      try simp only [Act.put, List.setIfInBounds_toArray, List.set_cons_zero, List.set_cons_succ]
      refine takeL 6 (v := ?_) rfl (by kernel_rfl) (by kernel_rfl) (by kernel_rfl) (fun _ _ _ h => h) (by rfl) (by assumption) ?_ ?_
      rotate_left
      · (intro w hSw; (subst hSw); go_simp <;> with_reducible rfl)
      try simp only [Act.put, List.setIfInBounds_toArray, List.set_cons_zero, List.set_cons_succ]
      refine takeL 7 (v := ?_) rfl (by kernel_rfl) (by kernel_rfl) (by kernel_rfl) (fun _ _ _ h => h) (by rfl) (by assumption) ?_ ?_
      rotate_left
      · (intro w hSw; (subst hSw); go_simp <;> with_reducible rfl)
      try simp only [Act.put, List.setIfInBounds_toArray, List.set_cons_zero, List.set_cons_succ]
      refine takeL 8 (v := ?_) rfl (by kernel_rfl) (by kernel_rfl) (by kernel_rfl) (fun _ _ _ h => h) (by rfl) (by assumption) ?_ ?_
      rotate_left
      · (intro w hSw; (subst hSw); go_simp <;> with_reducible rfl)
      try simp only [Act.put, List.setIfInBounds_toArray, List.set_cons_zero, List.set_cons_succ]
      refine takeL 9 (v := ?_) rfl (by kernel_rfl) (by kernel_rfl) (by kernel_rfl) (fun _ _ _ h => h) (by rfl) (by assumption) ?_ ?_
      rotate_left
      · (intro w hSw; (subst hSw); go_simp <;> with_reducible rfl)
      try simp only [Act.put, List.setIfInBounds_toArray, List.set_cons_zero, List.set_cons_succ]
      refine takeL 10 (v := ?_) rfl (by kernel_rfl) (by kernel_rfl) (by kernel_rfl) (fun _ _ _ h => h) (by rfl) (by assumption) ?_ ?_
      rotate_left
      · (intro w hSw; (subst hSw); go_simp <;> with_reducible rfl)
      try simp only [Act.put, List.setIfInBounds_toArray, List.set_cons_zero, List.set_cons_succ]
      refine takeL 11 (v := ?_) rfl (by kernel_rfl) (by kernel_rfl) (by kernel_rfl) (fun _ _ _ h => h) (by rfl) (by assumption) ?_ ?_
      rotate_left
      · (intro w hSw; (subst hSw); go_simp <;> with_reducible rfl)
      try simp only [Act.put, List.setIfInBounds_toArray, List.set_cons_zero, List.set_cons_succ]
      refine takeL 12 (v := ?_) rfl (by kernel_rfl) (by kernel_rfl) (by kernel_rfl) (fun _ _ _ h => h) (by rfl) (by assumption) ?_ ?_
      rotate_left
      · (intro w hSw; (subst hSw); go_simp <;> with_reducible rfl)
      try simp only [Act.put, List.setIfInBounds_toArray, List.set_cons_zero, List.set_cons_succ]
      refine takeL 13 (v := ?_) rfl (by kernel_rfl) (by kernel_rfl) (by kernel_rfl) (fun _ _ _ h => h) (by rfl) (by assumption) ?_ ?_
      rotate_left
      · (intro w hSw; (subst hSw); go_simp <;> with_reducible rfl)
      try simp only [Act.put, List.setIfInBounds_toArray, List.set_cons_zero, List.set_cons_succ]
      refine takeL 14 (v := ?_) rfl (by kernel_rfl) (by kernel_rfl) (by kernel_rfl) (fun _ _ _ h => h) (by rfl) (by assumption) ?_ ?_
      rotate_left
      · (intro w hSw; (subst hSw); go_simp <;> with_reducible rfl)
      try simp only [Act.put, List.setIfInBounds_toArray, List.set_cons_zero, List.set_cons_succ]
      refine takeL 15 (v := ?_) rfl (by kernel_rfl) (by kernel_rfl) (by kernel_rfl) (fun _ _ _ h => h) (by rfl) (by assumption) ?_ ?_
      rotate_left
      · (intro w hSw; (subst hSw); go_simp <;> with_reducible rfl)
      try simp only [Act.put, List.setIfInBounds_toArray, List.set_cons_zero, List.set_cons_succ]
      refine wpAnyH_done (by kernel_rfl) ?_ _
      go_wp2_with fail
      go_ret
      exact ⟨rfl, ⟨hI2.box, hI2.row, hI2.lo⟩, Chg.of_below _ hA2.drew⟩
    · have t3 : ((((tk &&& bt : Nat) : Int)) == 0) = false := by rw [beq_eq_false_iff_ne]; omega
      rw [if_neg (fun q => q.elim b0 a0)] at hFr
      have t4 : bits .andNot .u64 ((tk : Nat) : Int) ((bt : Nat) : Int) = (clrN tk bt : Nat) := andNot_clr (by omega) (by omega)
      subst hFr
      generalize clrN tk bt = nv at *
      generalize tk &&& bt = an at *
      clear b0 a0
      go_enter Tryd.func41, Tryd.ntmps41
      go_wp2_with fail
      (try simp only [hC])
      generalize (w.alloc (.cells #[.int .i64 (i : Nat), .int .i64 ix, .int .i64 cl, .int .i64 mn, .bool fr] 62)) = W1 at *
      refine hBit.mono ?_
      rintro e w2 ⟨rfl, hb2⟩
      have hI2 := hI1.keep hb2
      have hA2 := hA.trans (hb2.mono hA.size)
      obtain ⟨hc6, hf6⟩ := OwnE.cell eS_len hI2.row hnn (i := i) (j := 6) hi (by omega)
      rw [show S.getD i default = (x, lv, tk) from hs] at hc6
      replace hc6 : w2.cell? ⟨g, i * 7 + 6, none⟩ = some (.int .u64 (tk : Nat)) := hc6
      have xB := hI2.box.cell
      have q0 := cellK5 p0 hb2
      have q1 := cellK5 p1 hb2
      have q2 := cellK5 p2 hb2
      have q3 := cellK5 p3 hb2
      have q4 := cellK5 p4 hb2
      obtain ⟨hI3, hC3⟩ := IxAt.set (w := w2.drew.drew) (s := (x, lv, nv)) ⟨hI2.box, hI2.row, hI2.lo⟩ hnn hi (j := 6) (by omega) (u := .int .u64 (nv : Nat)) (by rw [hs]; rfl)
      have hgC : ¬ C = g := by omega
      obtain ⟨z0, z1, z2, z3, z4⟩ : (w2.drew.drew.setCell ⟨g, i * 7 + 6, none⟩ (.int .u64 (nv : Nat))).cell? ⟨C, 0, none⟩ = some (.int .i64 (i : Nat)) ∧ (w2.drew.drew.setCell ⟨g, i * 7 + 6, none⟩ (.int .u64 (nv : Nat))).cell? ⟨C, 1, none⟩ = some (.int .i64 ix) ∧ (w2.drew.drew.setCell ⟨g, i * 7 + 6, none⟩ (.int .u64 (nv : Nat))).cell? ⟨C, 2, none⟩ = some (.int .i64 cl) ∧ (w2.drew.drew.setCell ⟨g, i * 7 + 6, none⟩ (.int .u64 (nv : Nat))).cell? ⟨C, 3, none⟩ = some (.int .i64 mn) ∧ (w2.drew.drew.setCell ⟨g, i * 7 + 6, none⟩ (.int .u64 (nv : Nat))).cell? ⟨C, 4, none⟩ = some (.bool fr) := by
        exact ⟨(World.cell?_of_block (hC3.block C (World.block_lt_of_cell? _ _ q0) hgC)).trans q0, (World.cell?_of_block (hC3.block C (World.block_lt_of_cell? _ _ q0) hgC)).trans q1, (World.cell?_of_block (hC3.block C (World.block_lt_of_cell? _ _ q0) hgC)).trans q2, (World.cell?_of_block (hC3.block C (World.block_lt_of_cell? _ _ q0) hgC)).trans q3, (World.cell?_of_block (hC3.block C (World.block_lt_of_cell? _ _ q0) hgC)).trans q4⟩
      have hV := vac_any hI3 (i : Nat) ix cl mn fr (by rw [List.length_set, hnn]; exact hcl) (by rw [List.length_set, hnn]; exact hl)
      clear hBit p0 p1 p2 p3 p4
      have eW : w2.drew.drew.setCell ⟨g, i * 7 + 6, none⟩ (.int .u64 (nv : Nat)) = (w2.setCell ⟨g, i * 7 + 6, none⟩ (.int .u64 (nv : Nat))).drew.drew := rfl
      rw [eW] at hV hC3 z0 z1 z2 z3 z4
      clear eW hI3
      go_wp2_with fail
      refine wp_region_held_drew (S := (fun w' => w' = w2.drew)) (by kernel_rfl) ?_ (fun hHeld => ?_)
      · (try dsimp only)
        all_goals rfl
      refine takeL 0 (v := ?_) rfl (by kernel_rfl) (by kernel_rfl) (by kernel_rfl) (fun _ _ _ h => h) (by rfl) (by assumption) ?_ ?_
      rotate_left
      · (intro w hSw; (subst hSw); go_simp <;> with_reducible rfl)
      try simp only [Act.put, List.setIfInBounds_toArray, List.set_cons_zero, List.set_cons_succ]
      refine takeL 1 (v := ?_) rfl (by kernel_rfl) (by kernel_rfl) (by kernel_rfl) (fun _ _ _ h => h) (by rfl) (by assumption) ?_ ?_
      rotate_left
      · (intro w hSw; (subst hSw); go_simp <;> with_reducible rfl)
      try simp only [Act.put, List.setIfInBounds_toArray, List.set_cons_zero, List.set_cons_succ]
      refine takeL 2 (v := ?_) rfl (by kernel_rfl) (by kernel_rfl) (by kernel_rfl) (fun _ _ _ h => h) (by rfl) (by assumption) ?_ ?_
      rotate_left
      · (intro w hSw; (subst hSw); go_simp <;> with_reducible rfl)
      try simp only [Act.put, List.setIfInBounds_toArray, List.set_cons_zero, List.set_cons_succ]
      refine takeL 3 (v := ?_) rfl (by kernel_rfl) (by kernel_rfl) (by kernel_rfl) (fun _ _ _ h => h) (by rfl) (by assumption) ?_ ?_
      rotate_left
      · (intro w hSw; (subst hSw); go_simp <;> with_reducible rfl)
      try simp only [Act.put, List.setIfInBounds_toArray, List.set_cons_zero, List.set_cons_succ]
      refine takeL 4 (v := ?_) rfl (by kernel_rfl) (by kernel_rfl) (by kernel_rfl) (fun _ _ _ h => h) (by rfl) (by assumption) ?_ ?_
      rotate_left
      · (intro w hSw; (subst hSw); go_simp <;> with_reducible rfl)
      try simp only [Act.put, List.setIfInBounds_toArray, List.set_cons_zero, List.set_cons_succ]
      refine takeL 5 (v := ?_) rfl (by kernel_rfl) (by kernel_rfl) (by kernel_rfl) (fun _ _ _ h => h) (by rfl) (by assumption) ?_ ?_
      rotate_left
      · (intro w hSw; (subst hSw); go_simp <;> with_reducible rfl)
      try simp only [Act.put, List.setIfInBounds_toArray, List.set_cons_zero, List.set_cons_succ]
      refine takeL 6 (v := ?_) rfl (by kernel_rfl) (by kernel_rfl) (by kernel_rfl) (fun _ _ _ h => h) (by rfl) (by assumption) ?_ ?_
      rotate_left
      · (intro w hSw; (subst hSw); go_simp <;> with_reducible rfl)
      try simp only [Act.put, List.setIfInBounds_toArray, List.set_cons_zero, List.set_cons_succ]
      refine takeL 7 (v := ?_) rfl (by kernel_rfl) (by kernel_rfl) (by kernel_rfl) (fun _ _ _ h => h) (by rfl) (by assumption) ?_ ?_
      rotate_left
      · (intro w hSw; (subst hSw); go_simp <;> with_reducible rfl)
      try simp only [Act.put, List.setIfInBounds_toArray, List.set_cons_zero, List.set_cons_succ]
      refine takeL 8 (v := ?_) rfl (by kernel_rfl) (by kernel_rfl) (by kernel_rfl) (fun _ _ _ h => h) (by rfl) (by assumption) ?_ ?_
      rotate_left
      · (intro w hSw; (subst hSw); go_simp <;> with_reducible rfl)
      try simp only [Act.put, List.setIfInBounds_toArray, List.set_cons_zero, List.set_cons_succ]
      refine takeL 9 (v := ?_) rfl (by kernel_rfl) (by kernel_rfl) (by kernel_rfl) (fun _ _ _ h => h) (by rfl) (by assumption) ?_ ?_
      rotate_left
      · (intro w hSw; (subst hSw); go_simp <;> with_reducible rfl)
      try simp only [Act.put, List.setIfInBounds_toArray, List.set_cons_zero, List.set_cons_succ]
      refine takeL 10 (v := ?_) rfl (by kernel_rfl) (by kernel_rfl) (by kernel_rfl) (fun _ _ _ h => h) (by rfl) (by assumption) ?_ ?_
      rotate_left
      · (intro w hSw; (subst hSw); go_simp <;> with_reducible rfl)
      try simp only [Act.put, List.setIfInBounds_toArray, List.set_cons_zero, List.set_cons_succ]
      refine takeL 11 (v := ?_) rfl (by kernel_rfl) (by kernel_rfl) (by kernel_rfl) (fun _ _ _ h => h) (by rfl) (by assumption) ?_ ?_
      rotate_left
      · (intro w hSw; (subst hSw); go_simp <;> with_reducible rfl)
      try simp only [Act.put, List.setIfInBounds_toArray, List.set_cons_zero, List.set_cons_succ]
      refine takeL 12 (v := ?_) rfl (by kernel_rfl) (by kernel_rfl) (by kernel_rfl) (fun _ _ _ h => h) (by rfl) (by assumption) ?_ ?_
      rotate_left
      · (intro w hSw; (subst hSw); go_simp <;> with_reducible rfl)
      try simp only [Act.put, List.setIfInBounds_toArray, List.set_cons_zero, List.set_cons_succ]
      refine takeL 13 (v := ?_) rfl (by kernel_rfl) (by kernel_rfl) (by kernel_rfl) (fun _ _ _ h => h) (by rfl) (by assumption) ?_ ?_
      rotate_left
      · (intro w hSw; (subst hSw); go_simp <;> with_reducible rfl)
      try simp only [Act.put, List.setIfInBounds_toArray, List.set_cons_zero, List.set_cons_succ]
      refine takeL 14 (v := ?_) rfl (by kernel_rfl) (by kernel_rfl) (by kernel_rfl) (fun _ _ _ h => h) (by rfl) (by assumption) ?_ ?_
      rotate_left
      · (intro w hSw; (subst hSw); go_simp <;> with_reducible rfl)
      try simp only [Act.put, List.setIfInBounds_toArray, List.set_cons_zero, List.set_cons_succ]
      refine takeL 15 (v := ?_) rfl (by kernel_rfl) (by kernel_rfl) (by kernel_rfl) (fun _ _ _ h => h) (by rfl) (by assumption) ?_ ?_
      rotate_left
      · (intro w hSw; (subst hSw); go_simp <;> with_reducible rfl)
      try simp only [Act.put, List.setIfInBounds_toArray, List.set_cons_zero, List.set_cons_succ]
      refine wpAnyH_done (by kernel_rfl) ?_ _
      go_wp2_with fail
      refine wp_region_tail (S := (fun w' => w' = w2.drew.drew)) (n := 13) (by kernel_rfl) ?_ (fun hHeld hInv => ?_) (by decide)
      · (try dsimp only)
        all_goals rfl
      refine takeS 0 (v := ?_) (tailAt (by kernel_rfl)) hInv (by decide) rfl (by kernel_rfl) (by kernel_rfl) (by kernel_rfl) (fun _ _ _ h => h) (by rfl) (by assumption) ?_ (fun hInv2 => ?_)
      rotate_left
      · (intro w hSw; (try dsimp only at hSw); (subst hSw); go_simp <;> with_reducible rfl)
      clear hInv
      have hInv := hInv2
      clear hInv2
      try simp only [Act.put, List.setIfInBounds_toArray, List.set_cons_zero, List.set_cons_succ] at hInv ⊢
      refine takeS 1 (v := ?_) (tailAt (by kernel_rfl)) hInv (by decide) rfl (by kernel_rfl) (by kernel_rfl) (by kernel_rfl) (fun _ _ _ h => h) (by rfl) (by assumption) ?_ (fun hInv2 => ?_)
      rotate_left
      · (intro w hSw; (try dsimp only at hSw); (subst hSw); go_simp <;> with_reducible rfl)
      clear hInv
      have hInv := hInv2
      clear hInv2
      try simp only [Act.put, List.setIfInBounds_toArray, List.set_cons_zero, List.set_cons_succ] at hInv ⊢
      refine takeS 2 (v := ?_) (tailAt (by kernel_rfl)) hInv (by decide) rfl (by kernel_rfl) (by kernel_rfl) (by kernel_rfl) (fun _ _ _ h => h) (by rfl) (by assumption) ?_ (fun hInv2 => ?_)
      rotate_left
      · (intro w hSw; (try dsimp only at hSw); (subst hSw); go_simp <;> with_reducible rfl)
      clear hInv
      have hInv := hInv2
      clear hInv2
      try simp only [Act.put, List.setIfInBounds_toArray, List.set_cons_zero, List.set_cons_succ] at hInv ⊢
      refine takeS 3 (v := ?_) (tailAt (by kernel_rfl)) hInv (by decide) rfl (by kernel_rfl) (by kernel_rfl) (by kernel_rfl) (fun _ _ _ h => h) (by rfl) (by assumption) ?_ (fun hInv2 => ?_)
      rotate_left
      · (intro w hSw; (try dsimp only at hSw); (subst hSw); go_simp <;> with_reducible rfl)
      clear hInv
      have hInv := hInv2
      clear hInv2
      try simp only [Act.put, List.setIfInBounds_toArray, List.set_cons_zero, List.set_cons_succ] at hInv ⊢
      refine takeS 4 (v := ?_) (tailAt (by kernel_rfl)) hInv (by decide) rfl (by kernel_rfl) (by kernel_rfl) (by kernel_rfl) (fun _ _ _ h => h) (by rfl) (by assumption) ?_ (fun hInv2 => ?_)
      rotate_left
      · (intro w hSw; (try dsimp only at hSw); (subst hSw); go_simp <;> with_reducible rfl)
      clear hInv
      have hInv := hInv2
      clear hInv2
      try simp only [Act.put, List.setIfInBounds_toArray, List.set_cons_zero, List.set_cons_succ] at hInv ⊢
      refine takeS 5 (v := ?_) (tailAt (by kernel_rfl)) hInv (by decide) rfl (by kernel_rfl) (by kernel_rfl) (by kernel_rfl) (fun _ _ _ h => h) (by rfl) (by assumption) ?_ (fun hInv2 => ?_)
      rotate_left
      · (intro w hSw; (try dsimp only at hSw); (subst hSw); go_simp <;> with_reducible rfl)
      clear hInv
      have hInv := hInv2
      clear hInv2
      try simp only [Act.put, List.setIfInBounds_toArray, List.set_cons_zero, List.set_cons_succ] at hInv ⊢
      refine takeS 6 (v := ?_) (tailAt (by kernel_rfl)) hInv (by decide) rfl (by kernel_rfl) (by kernel_rfl) (by kernel_rfl) (fun _ _ _ h => h) (by rfl) (by assumption) ?_ (fun hInv2 => ?_)
      rotate_left
      · (intro w hSw; (try dsimp only at hSw); (subst hSw); go_simp <;> with_reducible rfl)
      clear hInv
      have hInv := hInv2
      clear hInv2
      try simp only [Act.put, List.setIfInBounds_toArray, List.set_cons_zero, List.set_cons_succ] at hInv ⊢
      refine takeS 7 (v := ?_) (tailAt (by kernel_rfl)) hInv (by decide) rfl (by kernel_rfl) (by kernel_rfl) (by kernel_rfl) (fun _ _ _ h => h) (by rfl) (by assumption) ?_ (fun hInv2 => ?_)
      rotate_left
      · (intro w hSw; (try dsimp only at hSw); (subst hSw); go_simp <;> with_reducible rfl)
      clear hInv
      have hInv := hInv2
      clear hInv2
      try simp only [Act.put, List.setIfInBounds_toArray, List.set_cons_zero, List.set_cons_succ] at hInv ⊢
      refine takeS 8 (v := ?_) (tailAt (by kernel_rfl)) hInv (by decide) rfl (by kernel_rfl) (by kernel_rfl) (by kernel_rfl) (fun _ _ _ h => h) (by rfl) (by assumption) ?_ (fun hInv2 => ?_)
      rotate_left
      · (intro w hSw; (try dsimp only at hSw); (subst hSw); go_simp <;> with_reducible rfl)
      clear hInv
      have hInv := hInv2
      clear hInv2
      try simp only [Act.put, List.setIfInBounds_toArray, List.set_cons_zero, List.set_cons_succ] at hInv ⊢
      refine takeS 9 (v := ?_) (tailAt (by kernel_rfl)) hInv (by decide) rfl (by kernel_rfl) (by kernel_rfl) (by kernel_rfl) (fun _ _ _ h => h) (by rfl) (by assumption) ?_ (fun hInv2 => ?_)
      rotate_left
      · (intro w hSw; (try dsimp only at hSw); (subst hSw); go_simp <;> with_reducible rfl)
      clear hInv
      have hInv := hInv2
      clear hInv2
      try simp only [Act.put, List.setIfInBounds_toArray, List.set_cons_zero, List.set_cons_succ] at hInv ⊢
      refine takeS 10 (v := ?_) (tailAt (by kernel_rfl)) hInv (by decide) rfl (by kernel_rfl) (by kernel_rfl) (by kernel_rfl) (fun _ _ _ h => h) (by rfl) (by assumption) ?_ (fun hInv2 => ?_)
      rotate_left
      · (intro w hSw; (try dsimp only at hSw); (subst hSw); go_simp <;> with_reducible rfl)
      clear hInv
      have hInv := hInv2
      clear hInv2
      try simp only [Act.put, List.setIfInBounds_toArray, List.set_cons_zero, List.set_cons_succ] at hInv ⊢
      refine takeS 11 (v := ?_) (tailAt (by kernel_rfl)) hInv (by decide) rfl (by kernel_rfl) (by kernel_rfl) (by kernel_rfl) (fun _ _ _ h => h) (by rfl) (by assumption) ?_ (fun hInv2 => ?_)
      rotate_left
      · (intro w hSw; (try dsimp only at hSw); (subst hSw); go_simp <;> with_reducible rfl)
      clear hInv
      have hInv := hInv2
      clear hInv2
      try simp only [Act.put, List.setIfInBounds_toArray, List.set_cons_zero, List.set_cons_succ] at hInv ⊢
      refine takeS 12 (v := ?_) (tailAt (by kernel_rfl)) hInv (by decide) rfl (by kernel_rfl) (by kernel_rfl) (by kernel_rfl) (fun _ _ _ h => h) (by rfl) (by assumption) ?_ (fun hInv2 => ?_)
      rotate_left
      · (intro w hSw; (try dsimp only at hSw); (subst hSw); go_simp <;> with_reducible rfl)
      clear hInv
      have hInv := hInv2
      clear hInv2
      try simp only [Act.put, List.setIfInBounds_toArray, List.set_cons_zero, List.set_cons_succ] at hInv ⊢
      refine lastS 13 rfl (by decide) (by kernel_rfl) (fun K hK => ?_)
      go_simp
      refine hK.out _ _ ?_
      clear hK K
      try simp only [Act.put, List.setIfInBounds_toArray, List.set_cons_zero, List.set_cons_succ]
      refine wpAnyS_done (by kernel_rfl) ?_ _
      go_wp2_with fail
      refine hV.mono ?_
      rintro e w5 ⟨rfl, hI5, hC5⟩
      go_wp2_with fail
      go_ret
      exact ⟨rfl, hI5, ((Chg.of_below _ hA2.drew.drew).trans hC3 (fun j q => .inl (by rw [q]; rfl))).trans hC5 (fun j q => .inl q)⟩
end Go.Proofs.YtnjifmecaeagaaaDoor
