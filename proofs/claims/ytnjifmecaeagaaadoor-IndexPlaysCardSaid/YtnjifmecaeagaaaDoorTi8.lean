/-
  Package tile: lists held against each other; the chapter's example.
-/
import Derived.Test.YtnjifmecaeagaaaDoorTi7
set_option linter.unusedVariables false
set_option linter.unusedSimpArgs false
namespace Go.Proofs.YtnjifmecaeagaaaDoor
open Go.RowKit Go.ChangeShapes Go.WideShapes Go.Deep

set_option maxRecDepth 10000 in
set_option maxHeartbeats 1000000 in
theorem sameBl (v u : Value) (l m : List Bl) (w : World) (hlen : l.length ≤ 1000000) (hv : BKL w v l) (hu : BKL w u m) :
    Calls Tryd.prog 21 #[v, u] w fun e w' => e = .returned (.bool (decide (l = m))) ∧ Below w.heap.size w w' := by
  obtain ⟨n, hn⟩ : ∃ n, l.length = n := ⟨_, rfl⟩
  obtain ⟨n2, hn2⟩ : ∃ n, m.length = n := ⟨_, rfl⟩
  obtain ⟨A, cap, rfl, hC⟩ := BKL.form hv hn
  obtain ⟨A2, cap2, rfl, hC2⟩ := BKL.form hu hn2
  have hne := Lib.hid (fun (h : ¬ l = m) => show decide (l = m) = false from decide_eq_false h)
  by_cases hnn : n = n2
  · subst hnn
    have hyes := Lib.hid (fun (h : ∀ j, j < n → l.getD j default = m.getD j default) => show decide (l = m) = true from by
      refine decide_eq_true ?_
      apply List.ext_getElem (by omega)
      intro i h1 h2
      have := h i (by omega)
      rwa [List.getD_eq_getElem?_getD, List.getD_eq_getElem?_getD, List.getElem?_eq_getElem h1, List.getElem?_eq_getElem h2] at this)
    replace hC := Lib.hid hC
    replace hC2 := Lib.hid hC2
    have hlen' : n ≤ 1000000 := by omega
    clear hlen
    replace hn := Lib.hid hn
    replace hn2 := Lib.hid hn2
    go_enter Tryd.func21, Tryd.ntmps21
    go_wp2_with fail
    go_loopw [5] (fun i wr => ∃ k : Nat, k ≤ n ∧ i = .int .i64 k ∧ Hid (∀ j, j < k → l.getD j default = m.getD j default) ∧ Below w.heap.size w wr) (fun i _ => n + 1 - (intOf i).toNat)
    case atStart => exact ⟨0, Nat.zero_le _, rfl, (fun j hj => by omega), Below.refl _ _⟩
    case round =>
      obtain ⟨k, hk, rfl, hF, hB⟩ := hrel
      by_cases hlt : k < n
      · obtain ⟨g, off, rfl, hcap, _, hg, c0, c1, c2⟩ := hC.out wr k hB hlt
        obtain ⟨g2, off2, rfl, hcap2, _, hg2, d0, d1, d2⟩ := hC2.out wr k hB hlt
        have hlt' : (k : Int) < (n : Int) := by omega
        have hF2 := Lib.hid (fun (h : l.getD k default = m.getD k default) j (hj : j < k + 1) => show l.getD j default = m.getD j default from by
          by_cases e : j = k
          · subst e; exact h
          · exact hF.out j (by omega))
        have hF3 := Lib.hid (fun (h : ¬ l.getD k default = m.getD k default) => show decide (l = m) = false from decide_eq_false (fun q => h (by rw [q])))
        generalize l.getD k default = s at *
        generalize m.getD k default = t at *
        obtain ⟨a, b, c⟩ := s
        obtain ⟨a2, b2, c2⟩ := t
        simp only [] at c0 d0 c1 d1 c2 d2
        by_cases h0 : a = a2
        · subst h0
          by_cases h1 : b = b2
          · subst h1
            by_cases h2 : c = c2
            · subst h2
              have hR := Lib.hid (hF2.out rfl)
              go_wp2_with fail
              go_region
              all_goals (try go_wp2_with fail)
              go_roundw
              case rel => exact ⟨k + 1, by omega, by go_num, hR, hB.drew⟩
              case measure => simp [intOf]; omega
            · have hR := Lib.hid (hF3.out (by simp [h2]))
              have f1 : ((c : Int) == (c2 : Int)) = false := by rw [beq_eq_false_iff_ne]; omega
              have f2 : (c == c2) = false := by rw [beq_eq_false_iff_ne]; omega
              clear h2
              go_wp2_with fail
              go_region
              all_goals (try go_wp2_with fail)
              all_goals
                go_ret
                exact ⟨by rw [hR.out]; rfl, hB.drew⟩
          · have hR := Lib.hid (hF3.out (by simp [h1]))
            have f1 : ((b : Int) == (b2 : Int)) = false := by rw [beq_eq_false_iff_ne]; omega
            have f2 : (b == b2) = false := by rw [beq_eq_false_iff_ne]; omega
            clear h1
            go_wp2_with fail
            go_region
            all_goals (try go_wp2_with fail)
            all_goals
              go_ret
              exact ⟨by rw [hR.out]; rfl, hB.drew⟩
        · have hR := Lib.hid (hF3.out (by simp [h0]))
          have f1 : ((a : Int) == (a2 : Int)) = false := by rw [beq_eq_false_iff_ne]; omega
          have f2 : (a == a2) = false := by rw [beq_eq_false_iff_ne]; omega
          clear h0
          go_wp2_with fail
          go_region
          all_goals (try go_wp2_with fail)
          all_goals
            go_ret
            exact ⟨by rw [hR.out]; rfl, hB.drew⟩
      · obtain rfl : k = n := by omega
        have hR := Lib.hid (hyes.out hF.out)
        go_wp2_with fail
        go_ret
        exact ⟨by rw [hR.out]; rfl, hB⟩
  · have hR := Lib.hid (hne.out (fun h => hnn (by rw [← hn, ← hn2, h])))
    have f1 : ((n : Int) != (n2 : Int)) = true := by rw [bne_iff_ne]; omega
    clear hn hn2 hv hu hC hC2 hnn
    go_enter Tryd.func21, Tryd.ntmps21
    go_wp2_with fail
    go_ret
    exact ⟨by rw [hR.out]; rfl, Below.refl _ _⟩

set_option maxRecDepth 10000 in
set_option maxHeartbeats 1000000 in
theorem sameSp (v u : Value) (l m : List (Nat × Nat)) (w : World) (hlen : l.length ≤ 1000000) (hv : PKL w v l) (hu : PKL w u m) :
    Calls Tryd.prog 24 #[v, u] w fun e w' => e = .returned (.bool (decide (l = m))) ∧ Below w.heap.size w w' := by
  obtain ⟨n, hn⟩ : ∃ n, l.length = n := ⟨_, rfl⟩
  obtain ⟨n2, hn2⟩ : ∃ n, m.length = n := ⟨_, rfl⟩
  obtain ⟨A, cap, rfl, hC⟩ := PKL.form hv hn
  obtain ⟨A2, cap2, rfl, hC2⟩ := PKL.form hu hn2
  have hne := Lib.hid (fun (h : ¬ l = m) => show decide (l = m) = false from decide_eq_false h)
  by_cases hnn : n = n2
  · subst hnn
    have hyes := Lib.hid (fun (h : ∀ j, j < n → l.getD j default = m.getD j default) => show decide (l = m) = true from by
      refine decide_eq_true ?_
      apply List.ext_getElem (by omega)
      intro i h1 h2
      have := h i (by omega)
      rwa [List.getD_eq_getElem?_getD, List.getD_eq_getElem?_getD, List.getElem?_eq_getElem h1, List.getElem?_eq_getElem h2] at this)
    replace hC := Lib.hid hC
    replace hC2 := Lib.hid hC2
    have hlen' : n ≤ 1000000 := by omega
    clear hlen
    replace hn := Lib.hid hn
    replace hn2 := Lib.hid hn2
    go_enter Tryd.func24, Tryd.ntmps24
    go_wp2_with fail
    go_loopw [5] (fun i wr => ∃ k : Nat, k ≤ n ∧ i = .int .i64 k ∧ Hid (∀ j, j < k → l.getD j default = m.getD j default) ∧ Below w.heap.size w wr) (fun i _ => n + 1 - (intOf i).toNat)
    case atStart => exact ⟨0, Nat.zero_le _, rfl, (fun j hj => by omega), Below.refl _ _⟩
    case round =>
      obtain ⟨k, hk, rfl, hF, hB⟩ := hrel
      by_cases hlt : k < n
      · obtain ⟨g, off, rfl, hcap, _, hg, c0, c1⟩ := hC.out wr k hB hlt
        obtain ⟨g2, off2, rfl, hcap2, _, hg2, d0, d1⟩ := hC2.out wr k hB hlt
        have hlt' : (k : Int) < (n : Int) := by omega
        have hF2 := Lib.hid (fun (h : l.getD k default = m.getD k default) j (hj : j < k + 1) => show l.getD j default = m.getD j default from by
          by_cases e : j = k
          · subst e; exact h
          · exact hF.out j (by omega))
        have hF3 := Lib.hid (fun (h : ¬ l.getD k default = m.getD k default) => show decide (l = m) = false from decide_eq_false (fun q => h (by rw [q])))
        generalize l.getD k default = s at *
        generalize m.getD k default = t at *
        obtain ⟨a, b⟩ := s
        obtain ⟨a2, b2⟩ := t
        simp only [] at c0 d0 c1 d1
        by_cases h0 : a = a2
        · subst h0
          by_cases h1 : b = b2
          · subst h1
            have hR := Lib.hid (hF2.out rfl)
            go_wp2_with fail
            go_region
            all_goals (try go_wp2_with fail)
            go_roundw
            case rel => exact ⟨k + 1, by omega, by go_num, hR, hB.drew⟩
            case measure => simp [intOf]; omega
          · have hR := Lib.hid (hF3.out (by simp [h1]))
            have f1 : ((b : Int) == (b2 : Int)) = false := by rw [beq_eq_false_iff_ne]; omega
            have f2 : (b == b2) = false := by rw [beq_eq_false_iff_ne]; omega
            clear h1
            go_wp2_with fail
            go_region
            all_goals (try go_wp2_with fail)
            all_goals
              go_ret
              exact ⟨by rw [hR.out]; rfl, hB.drew⟩
        · have hR := Lib.hid (hF3.out (by simp [h0]))
          have f1 : ((a : Int) == (a2 : Int)) = false := by rw [beq_eq_false_iff_ne]; omega
          have f2 : (a == a2) = false := by rw [beq_eq_false_iff_ne]; omega
          clear h0
          go_wp2_with fail
          go_region
          all_goals (try go_wp2_with fail)
          all_goals
            go_ret
            exact ⟨by rw [hR.out]; rfl, hB.drew⟩
      · obtain rfl : k = n := by omega
        have hR := Lib.hid (hyes.out hF.out)
        go_wp2_with fail
        go_ret
        exact ⟨by rw [hR.out]; rfl, hB⟩
  · have hR := Lib.hid (hne.out (fun h => hnn (by rw [← hn, ← hn2, h])))
    have f1 : ((n : Int) != (n2 : Int)) = true := by rw [bne_iff_ne]; omega
    clear hn hn2 hv hu hC hC2 hnn
    go_enter Tryd.func24, Tryd.ntmps24
    go_wp2_with fail
    go_ret
    exact ⟨by rw [hR.out]; rfl, Below.refl _ _⟩

theorem aw_blocks : blksT [33554449, 0, 4098, 3] = [(0, 1, 16), (2, 0, 64)] := by decide +kernel
theorem aw_rows : rowsT [33554449, 0, 4098, 3] = [(1, 1)] := by decide +kernel
theorem aw_right : rightT [33554449, 0, 4098, 3] = true := by decide +kernel
set_option maxRecDepth 10000 in
set_option maxHeartbeats 2000000 in
theorem awake11 (w : World) (hw : Lw w) : Calls Tryd.prog 15 #[] w fun e w' => e = .returned (.bool true) ∧ Below w.heap.size w w' := by
  have hb0 : Below w.heap.size w (w.alloc (.cells #[.int .u64 33554449, .int .u64 0, .int .u64 4098, .int .u64 3] (27 : Nat))) := (Below.refl _ _).alloc (Nat.le_refl _) _
  have hl0 : KL .u64 (w.alloc (.cells #[.int .u64 33554449, .int .u64 0, .int .u64 4098, .int .u64 3] (27 : Nat))) (.slice (some ⟨w.heap.size, 0, none⟩) 4 4) [33554449, 0, 4098, 3] := KL.lit w [33554449, 0, 4098, 3] (by decide)
  have hW : WL [33554449, 0, 4098, 3] := by unfold WL; decide
  have hw0 := hw.keep hb0
  have hA := blocksT_any _ _ _ hw0 hl0 hW (by decide)
  rw [aw_blocks] at hA
  have hs := hb0.size
  generalize hw1 : w.alloc (.cells #[.int .u64 33554449, .int .u64 0, .int .u64 4098, .int .u64 3] (27 : Nat)) = w1 at *
  have hR := Lib.hid (fun w2 (hb : Below w1.heap.size w1 w2) => rowsT_any _ _ w2 (hw0.keep hb) (hl0.keep hb) hW (by decide))
  rw [aw_rows] at hR
  have hT := Lib.hid (fun w2 (hb : Below w1.heap.size w1 w2) => right_any2 _ _ w2 (hw0.keep hb) (hl0.keep hb) hW (by decide))
  rw [aw_right] at hT
  have hSB := Lib.hid (fun v u w (h1 : BKL w v [(0, 1, 16), (2, 0, 64)]) (h2 : BKL w u [(0, 1, 16), (2, 0, 64)]) => sameBl v u _ _ w (by decide) h1 h2)
  have hSP := Lib.hid (fun v u w (h1 : PKL w v [(1, 1)]) (h2 : PKL w u [(1, 1)]) => sameSp v u _ _ w (by decide) h1 h2)
  have d1 : decide (([(0, 1, 16), (2, 0, 64)] : List Bl) = [(0, 1, 16), (2, 0, 64)]) = true := by decide
  have d2 : decide (([(1, 1)] : List (Nat × Nat)) = [(1, 1)]) = true := by decide
  rw [d1] at hSB
  rw [d2] at hSP
  clear d1 d2
  have hLB := Lib.hid (fun (w : World) => show BKL (w.alloc (.cells #[.int .i64 0, .int .i64 1, .int .i64 16, .int .i64 2, .int .i64 0, .int .i64 64] (44 : Nat))) (.slice (some ⟨w.heap.size, 0, none⟩) 2 2) [(0, 1, 16), (2, 0, 64)] from (OwnE.lit 44 (en := eB) eB_len w [(0, 1, 16), (2, 0, 64)] _ rfl (by decide)).el eB_len)
  have hLP := Lib.hid (fun (w : World) => show PKL (w.alloc (.cells #[.int .i64 1, .int .i64 1] (46 : Nat))) (.slice (some ⟨w.heap.size, 0, none⟩) 1 1) [(1, 1)] from (OwnE.lit 46 (en := eP) eP_len w [(1, 1)] _ rfl (by decide)).el eP_len)
  subst hw1
  clear hl0 hw0 hw
  go_enter Tryd.func15, Tryd.ntmps15
  go_wp2_with fail
  refine hA.mono ?_
  rintro e w2 ⟨v2, rfl, ho2, hb2⟩
  have hk2 := ho2.el eB_len
  have hR2 := hR.out _ hb2
  clear ho2 hA
  go_wp2_with fail
  refine hR2.mono ?_
  rintro e w3 ⟨v3, rfl, ho3, hb3⟩
  have hb23 := hb2.trans (hb3.mono hb2.size)
  have hk3 := ho3.el eP_len
  replace hk2 := hk2.keep hb3
  have hT3 := hT.out _ hb23
  clear ho3 hR2 hb2 hb3
  go_wp2_with fail
  refine hT3.mono ?_
  rintro e w4 ⟨rfl, hb4⟩
  have hB4 := hb0.trans ((hb23.trans (hb4.mono hb23.size)).mono hs)
  replace hk2 := hk2.keep hb4
  replace hk3 := hk3.keep hb4
  clear hb4 hb23 hT3
  have hA5 := (Below.refl w4.heap.size w4).alloc (Nat.le_refl _) (.cells #[.int .i64 0, .int .i64 1, .int .i64 16, .int .i64 2, .int .i64 0, .int .i64 64] (44 : Nat))
  have hS5 := hSB.out _ _ _ (hk2.keep hA5) (hLB.out w4)
  replace hk3 := hk3.keep hA5
  have hB5 := hB4.trans (hA5.mono hB4.size)
  clear hA5
  go_wp2_with fail
  refine hS5.mono ?_
  rintro e w6 ⟨rfl, hb6⟩
  have hB6 := hB5.trans (hb6.mono hB5.size)
  replace hk3 := hk3.keep hb6
  clear hS5 hb6 hk2
  have hA7 := (Below.refl w6.heap.size w6).alloc (Nat.le_refl _) (.cells #[.int .i64 1, .int .i64 1] (46 : Nat))
  have hS7 := hSP.out _ _ _ (hk3.keep hA7) (hLP.out w6)
  have hB7 := hB6.trans (hA7.mono hB6.size)
  clear hA7
  go_wp2_with fail
  refine hS7.mono ?_
  rintro e w8 ⟨rfl, hb8⟩
  have hB8 := hB7.trans (hb8.mono hB7.size)
  go_wp2_with fail
  go_ret
  exact ⟨rfl, hB8⟩
end Go.Proofs.YtnjifmecaeagaaaDoor
