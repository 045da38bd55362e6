/-
  What the document's calls Words and Few answer; the chapter's example.
-/
import Derived.Test.YtddfhgdejlkdgaaPc7
set_option linter.unusedVariables false
namespace Go.Proofs.Ytddfhgdejlkdgaa
open Go.RowKit

set_option maxHeartbeats 1000000 in
theorem words_any (v u : Value) (l m : List Nat) (w : World) (hlen : l.length ≤ 1000000) (hv : KL .u64 w v l) (hu : KL .u64 w u m) :
    Calls Try.prog 17 #[v, u] w fun e w' => e = .returned (.bool (decide (l = m))) ∧ Below w.heap.size w w' := by
  obtain ⟨n, hn⟩ : ∃ n, l.length = n := ⟨_, rfl⟩
  obtain ⟨n2, hn2⟩ : ∃ n, m.length = n := ⟨_, rfl⟩
  obtain ⟨A, cap, rfl, hC⟩ := hv.form hn
  obtain ⟨A2, cap2, rfl, hC2⟩ := hu.form hn2
  have hne := Lib.hid (fun (h : ¬ l = m) => show decide (l = m) = false from decide_eq_false h)
  by_cases hnn : n = n2
  · subst hnn
    have hyes := Lib.hid (fun (h : ∀ j, j < n → l.getD j 0 = m.getD j 0) => show decide (l = m) = true from by
      refine decide_eq_true ?_
      apply List.ext_getElem (by omega)
      intro i h1 h2
      have := h i (by omega)
      rwa [List.getD_eq_getElem?_getD, List.getD_eq_getElem?_getD, List.getElem?_eq_getElem h1, List.getElem?_eq_getElem h2] at this)
    replace hC := Lib.hid hC
    replace hC2 := Lib.hid hC2
    have hlen' : n ≤ 1000000 := by omega
    clear hlen
    replace hn := Lib.hid hn
    replace hn2 := Lib.hid hn2
    go_enter Try.func17, Try.ntmps17
    go_wp2_with fail
    go_loopw [5] (fun i wr => ∃ k : Nat, k ≤ n ∧ i = .int .i64 k ∧ Hid (∀ j, j < k → l.getD j 0 = m.getD j 0) ∧ Below w.heap.size w wr) (fun i _ => n + 1 - (intOf i).toNat)
    case atStart => exact ⟨0, Nat.zero_le _, rfl, (fun j hj => by omega), Below.refl _ _⟩
    case round =>
      obtain ⟨k, hk, rfl, hF, hB⟩ := hrel
      by_cases hlt : k < n
      · obtain ⟨g, off, rfl, hcap, hg, c0⟩ := hC.out wr k hB hlt
        obtain ⟨g2, off2, rfl, hcap2, hg2, d0⟩ := hC2.out wr k hB hlt
        have hlt' : (k : Int) < (n : Int) := by omega
        have hF2 := Lib.hid (fun (h : l.getD k 0 = m.getD k 0) j (hj : j < k + 1) => show l.getD j 0 = m.getD j 0 from by
          by_cases e : j = k
          · subst e; exact h
          · exact hF.out j (by omega))
        have hF3 := Lib.hid (fun (h : ¬ l.getD k 0 = m.getD k 0) => show decide (l = m) = false from decide_eq_false (fun q => h (by rw [q])))
        generalize l.getD k 0 = a at *
        generalize m.getD k 0 = c at *
        by_cases hac : a = c
        · subst hac
          have hR := Lib.hid (hF2.out rfl)
          go_wp2_with fail
          go_region
          all_goals (try go_wp2_with fail)
          go_roundw
          case rel => exact ⟨k + 1, by omega, by go_num, hR, hB.drew⟩
          case measure => simp [intOf]; omega
        · have hR := Lib.hid (hF3.out hac)
          have f1 : ((a : Int) == (c : Int)) = false := by rw [beq_eq_false_iff_ne]; omega
          have f2 : ((a : Int) != (c : Int)) = true := by rw [bne_iff_ne]; omega
          go_wp2_with fail
          go_region
          all_goals (try go_wp2_with fail)
          all_goals
            go_ret
            exact ⟨by rw [hR.out]; rfl, hB.drew⟩
      · obtain rfl : k = n := by omega
        have hR := Lib.hid (hyes.out hF.out)
        go_wp2_with fail
        go_ret
        exact ⟨by rw [hR.out]; rfl, hB⟩
  · have hR := Lib.hid (hne.out (fun h => hnn (by rw [← hn, ← hn2, h])))
    have f1 : ((n : Int) != (n2 : Int)) = true := by rw [bne_iff_ne]; omega
    clear hn hn2 hv hu hC hC2 hnn
    go_enter Try.func17, Try.ntmps17
    go_wp2_with fail
    go_ret
    exact ⟨by rw [hR.out]; rfl, Below.refl _ _⟩

def FB (x : Sp) : Prop := 0 ≤ x.1 ∧ x.1 ≤ 1099511627776 ∧ 0 ≤ x.2 ∧ x.2 ≤ 40
instance (x : Sp) : Decidable (FB x) := by unfold FB; infer_instance
def fewL (l : List Sp) : Bool := decide (∀ x ∈ l, FB x) && decide (l.length ≤ 9)
theorem few_of {l : List Sp} (h : fewL l = true) : PBs l ∧ SBs l ∧ l.length ≤ 9 := by
  unfold fewL at h
  simp only [Bool.and_eq_true, decide_eq_true_eq] at h
  refine ⟨fun x hx => ?_, fun x hx => ?_, h.2⟩
  · obtain ⟨h1, h2, h3, h4⟩ := h.1 x hx
    unfold PB; omega
  · obtain ⟨h1, h2, h3, h4⟩ := h.1 x hx
    unfold SB; omega
set_option maxHeartbeats 2000000 in
theorem few_any (v : Value) (l : List Sp) (w : World) (hv : PL w v l) (hlen : l.length ≤ 9223372036854775807) :
    Calls Try.prog 9 #[v] w fun e w' => e = .returned (.bool (fewL l)) ∧ Below w.heap.size w w' := by
  obtain ⟨n, hn⟩ : ∃ n, l.length = n := ⟨_, rfl⟩
  obtain ⟨A, cap, rfl, hC⟩ := hv.form hn
  have hyes := Lib.hid (fun (h : ∀ j, j < n → FB (l.getD j (0, 0))) => show fewL l = decide (n ≤ 9) from by
    have : ∀ x ∈ l, FB x := fun x hx => by
      obtain ⟨i, hi, rfl⟩ := List.mem_iff_getElem.1 hx
      have := h i (by omega)
      rwa [List.getD_eq_getElem?_getD, List.getElem?_eq_getElem hi] at this
    unfold fewL
    rw [decide_eq_true this, Bool.true_and, hn])
  have hno := Lib.hid (fun k (hk : k < n) (h : ¬ FB (l.getD k (0, 0))) => show fewL l = false from by
    unfold fewL
    have hm : l.getD k (0, 0) ∈ l := by rw [List.getD_eq_getElem?_getD, List.getElem?_eq_getElem (by omega)]; exact List.getElem_mem _
    rw [decide_eq_false (fun q => h (q _ hm)), Bool.false_and])
  replace hC := Lib.hid hC
  have hlen' : n ≤ 9223372036854775807 := by omega
  clear hlen hv
  replace hn := Lib.hid hn
  go_enter Try.func9, Try.ntmps9
  go_wp2_with fail
  go_loopw [3] (fun i wr => ∃ k : Nat, k ≤ n ∧ i = .int .i64 k ∧ Hid (∀ j, j < k → FB (l.getD j (0, 0))) ∧ Below w.heap.size w wr) (fun i _ => n + 1 - (intOf i).toNat)
  case atStart => exact ⟨0, Nat.zero_le _, rfl, (fun j hj => by omega), Below.refl _ _⟩
  case round =>
    obtain ⟨k, hk, rfl, hF, hB⟩ := hrel
    by_cases hlt : k < n
    · obtain ⟨g, off, rfl, hcap, hg, c0, c1⟩ := hC.out wr k hB hlt
      have hlt' : (k : Int) < (n : Int) := by omega
      have hF2 := Lib.hid (fun (h : FB (l.getD k (0, 0))) j (hj : j < k + 1) => show FB (l.getD j (0, 0)) from by
        by_cases e : j = k
        · subst e; exact h
        · exact hF.out j (by omega))
      have hnk := Lib.hid (hno.out k hlt)
      generalize l.getD k (0, 0) = s at *
      obtain ⟨a, b⟩ := s
      simp only [] at c0 c1
      by_cases q1 : a < 0
      · have hR := Lib.hid (hnk.out (by unfold FB; simp only []; omega))
        go_wp2_with fail
        go_ret
        exact ⟨by rw [hR.out]; rfl, hB⟩
      have q1' : 0 ≤ a := by omega
      clear q1
      by_cases q2 : 1099511627776 < a
      · have hR := Lib.hid (hnk.out (by unfold FB; simp only []; omega))
        go_wp2_with fail
        go_ret
        exact ⟨by rw [hR.out]; rfl, hB⟩
      have q2' : a ≤ 1099511627776 := by omega
      clear q2
      by_cases q3 : b < 0
      · have hR := Lib.hid (hnk.out (by unfold FB; simp only []; omega))
        go_wp2_with fail
        go_ret
        exact ⟨by rw [hR.out]; rfl, hB⟩
      have q3' : 0 ≤ b := by omega
      clear q3
      by_cases q4 : 40 < b
      · have hR := Lib.hid (hnk.out (by unfold FB; simp only []; omega))
        go_wp2_with fail
        go_ret
        exact ⟨by rw [hR.out]; rfl, hB⟩
      have q4' : b ≤ 40 := by omega
      clear q4
      have hR := Lib.hid (hF2.out ⟨q1', q2', q3', q4'⟩)
      go_wp2_with fail
      go_roundw
      case rel => exact ⟨k + 1, by omega, by go_num, hR, hB⟩
      case measure => simp [intOf]; omega
    · obtain rfl : k = n := by omega
      have hR := Lib.hid (hyes.out hF.out)
      by_cases q : k ≤ 9
      · have q' : (k : Int) ≤ 9 := by omega
        go_wp2_with fail
        go_ret
        exact ⟨by rw [hR.out, decide_eq_true q]; rfl, hB⟩
      · have q' : 9 < (k : Int) := by omega
        go_wp2_with fail
        go_ret
        exact ⟨by rw [hR.out, decide_eq_false q]; show Ending.returned (.bool (decide ((k : Int) ≤ 9))) = _; rw [decide_eq_false (by omega)], hB⟩

theorem PL.lit (w : World) (l : List Sp) (hl : l.length ≤ 1000) : PL (w.alloc (.cells (spv l).toArray (24 : Nat))) (.slice (some ⟨w.heap.size, 0, none⟩) l.length l.length) l := by
  have := World.ownsRow_lit (base := w.heap.size) (e := 24) (size := 2) w (spv l).toArray l.length (Nat.le_refl _) (by unfold maxLen; omega) (by simp [spv_len])
  exact OwnSp.pl (base := w.heap.size) this
theorem KL.lit (w : World) (l : List Nat) (hl : l.length ≤ 1000) : KL .u64 (w.alloc (.cells (l.map fun x : Nat => Value.int .u64 x).toArray (43 : Nat))) (.slice (some ⟨w.heap.size, 0, none⟩) l.length l.length) l := by
  have := World.ownsRow_lit (base := w.heap.size) (e := 43) (size := 1) w (l.map fun x : Nat => Value.int .u64 x).toArray l.length (Nat.le_refl _) (by unfold maxLen; omega) (by simp)
  exact OwnU.kl (base := w.heap.size) (by simpa [OwnU] using this)
set_option maxRecDepth 10000 in
set_option maxHeartbeats 2000000 in
theorem awake14 (w : World) : Calls Try.prog 8 #[] w fun e w' => e = .returned (.bool true) ∧ Below w.heap.size w w' := by
  have hP1 := Lib.hid (fun (w : World) => PL.lit w [(10, 3), (50, 10)] (by decide))
  have hCu := Lib.hid (fun v (w : World) (hv : PL w v [(10, 3), (50, 10)]) => cut_any v [(10, 3), (50, 10)] (2, 3) w (by unfold PBs PB; decide) (by decide) (by decide) (by decide) (by decide) (by decide) hv)
  have hG := Lib.hid (fun (w : World) => gather_any (.slice (some ⟨w.heap.size, 0, none⟩) 2 2) (.slice (some ⟨w.heap.size + 1, 0, none⟩) 1 1) [5, 6] [(1, 2)] _ (by unfold PBs PB; decide) (by decide) ((KL.lit w [5, 6] (by decide)).keep ((Below.refl _ _).alloc (Nat.le_refl _) _)) (by have := PL.lit (w.alloc (.cells ([5, 6].map fun x : Nat => Value.int .u64 x).toArray (43 : Nat))) [(1, 2)] (by decide); rw [World.size_alloc] at this; exact this))
  have hAt := Lib.hid (fun v (w : World) (hv : PL w v [(10, 3), (50, 10)]) => at_any v [(10, 3), (50, 10)] 3 w (by unfold PBs PB; decide) (by decide) (by decide) (by decide) hv)
  have hT := Lib.hid (fun v (w : World) (hv : PL w v [(10, 3), (50, 10)]) => total_any v [(10, 3), (50, 10)] w (by unfold SBs SB; decide) (by decide) hv)
  have hS := Lib.hid (fun v (w : World) (hv : PL w v [(12, 1), (50, 2)]) => same_any v (.slice (some ⟨w.heap.size, 0, none⟩) 2 2) [(12, 1), (50, 2)] [(12, 1), (50, 2)] _ (by decide) (hv.keep ((Below.refl _ _).alloc (Nat.le_refl _) _)) (PL.lit w [(12, 1), (50, 2)] (by decide)))
  have hW := Lib.hid (fun v (w : World) (hv : KL .u64 w v [6, 0]) => words_any v (.slice (some ⟨w.heap.size, 0, none⟩) 2 2) [6, 0] [6, 0] _ (by decide) (hv.keep ((Below.refl _ _).alloc (Nat.le_refl _) _)) (KL.lit w [6, 0] (by decide)))
  rw [show cutL [(10, 3), (50, 10)] (2, 3) = [(12, 1), (50, 2)] by decide +kernel] at hCu
  rw [show gathL [5, 6] [(1, 2)] = [6, 0] by decide +kernel] at hG
  rw [show atL [(10, 3), (50, 10)] 3 = 50 by decide +kernel] at hAt
  rw [show totS [(10, 3), (50, 10)] = 13 by decide +kernel] at hT
  rw [show decide (([(12, 1), (50, 2)] : List Sp) = [(12, 1), (50, 2)]) = true by decide +kernel] at hS
  rw [show decide (([6, 0] : List Nat) = [6, 0]) = true by decide +kernel] at hW
  simp only [spv, List.map_cons, List.map_nil] at hP1 hG hS hW
  go_enter Try.func8, Try.ntmps8
  have hp1 := hP1.out w
  clear hP1
  go_wp2_with fail
  refine (hCu.out _ _ hp1).mono ?_
  rintro e w1 ⟨v1, rfl, ho1, hb1⟩
  have hB1 : Below w.heap.size w w1 := ((Below.refl _ _).alloc (Nat.le_refl _) _).trans (hb1.mono (by simp))
  have hp2 := ho1.pl
  replace hp1 := hp1.keep hb1
  clear ho1 hb1
  go_wp2_with fail
  refine (hG.out _).mono ?_
  rintro e w2 ⟨v2, rfl, ho2, hb2⟩
  have hB12 : Below w1.heap.size w1 w2 := (((Below.refl _ _).alloc (Nat.le_refl _) _).alloc (by simp) _).trans (hb2.mono (by simp; omega))
  have hB2 := hB1.trans (hB12.mono hB1.size)
  have hk := ho2.kl
  replace hp1 := hp1.keep hB12
  replace hp2 := hp2.keep hB12
  clear ho2 hb2 hB1 hB12
  go_wp2_with fail
  refine (hAt.out _ _ hp1).mono ?_
  rintro e w3 ⟨rfl, hb3⟩
  have hB3 := hB2.trans (hb3.mono hB2.size)
  replace hp1 := hp1.keep hb3
  replace hp2 := hp2.keep hb3
  replace hk := hk.keep hb3
  clear hb3 hB2
  go_wp2_with fail
  refine (hT.out _ _ hp1).mono ?_
  rintro e w4 ⟨rfl, hb4⟩
  have hB4 := hB3.trans (hb4.mono hB3.size)
  replace hp2 := hp2.keep hb4
  replace hk := hk.keep hb4
  clear hb4 hB3 hp1
  go_wp2_with fail
  refine (hS.out _ _ hp2).mono ?_
  rintro e w5 ⟨rfl, hb5⟩
  have hB5 : Below w.heap.size w w5 := (hB4.alloc hB4.size _).trans (hb5.mono (by have := hB4.size; simp; omega))
  replace hk := (hk.keep ((Below.refl _ _).alloc (Nat.le_refl _) _)).keep hb5
  clear hb5 hB4 hp2
  go_wp2_with fail
  refine (hW.out _ _ hk).mono ?_
  rintro e w6 ⟨rfl, hb6⟩
  have hB6 : Below w.heap.size w w6 := (hB5.alloc hB5.size _).trans (hb6.mono (by have := hB5.size; simp; omega))
  clear hb6 hB5 hk
  go_wp2_with fail
  go_ret
  exact ⟨rfl, hB6⟩
end Go.Proofs.Ytddfhgdejlkdgaa
