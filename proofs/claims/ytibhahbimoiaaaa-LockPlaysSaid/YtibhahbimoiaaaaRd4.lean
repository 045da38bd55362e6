/-
  Whether operations are within so many words; whether two lists are one.
-/
import Derived.Test.YtibhahbimoiaaaaRd3
set_option linter.unusedVariables false
set_option linter.unusedSimpArgs false
namespace Go.Proofs.Ytibhahbimoiaaaa
open Go.RowKit Go.ChangeShapes Go.WideShapes Go.Deep

def withinB (l : List Ox) (n : Int) : Bool := l.all fun o => decide (0 ≤ o.2.1) && decide (o.2.1 < n)
theorem within_no {l : List Ox} {n : Int} {k : Nat} (hk : k < l.length) (h : ¬ (0 ≤ (l.getD k default).2.1 ∧ (l.getD k default).2.1 < n)) : withinB l n = false := by
  unfold withinB
  rw [List.all_eq_false]
  refine ⟨l.getD k default, ?_, by simpa using h⟩
  rw [List.getD_eq_getElem?_getD, List.getElem?_eq_getElem hk]
  exact List.getElem_mem _
theorem within_yes {l : List Ox} {n : Int} (h : ∀ j, j < l.length → 0 ≤ (l.getD j default).2.1 ∧ (l.getD j default).2.1 < n) : withinB l n = true := by
  unfold withinB
  rw [List.all_eq_true]
  intro x hx
  obtain ⟨i, hi, rfl⟩ := List.mem_iff_getElem.1 hx
  have := h i hi
  rw [List.getD_eq_getElem?_getD, List.getElem?_eq_getElem hi] at this
  simpa using this

set_option maxHeartbeats 1000000 in
theorem within_any (v : Value) (l : List Ox) (m : Int) (w : World) (hlen : l.length ≤ 9223372036854775807) (hv : OPL w v l) :
    Calls Try.prog 27 #[v, .int .i64 m] w fun e w' => e = .returned (.bool (withinB l m)) ∧ Below w.heap.size w w' := by
  obtain ⟨n, hn⟩ : ∃ n, l.length = n := ⟨_, rfl⟩
  obtain ⟨A, cap, rfl, hC⟩ := hv.form hn
  have hT := Lib.hid (fun (h : ∀ j, j < n → 0 ≤ (l.getD j default).2.1 ∧ (l.getD j default).2.1 < m) => within_yes (l := l) (n := m) (fun j hj => h j (by omega)))
  have hH := Lib.hid (fun k (h : k < n) hw => within_no (l := l) (n := m) (k := k) (by omega) hw)
  replace hC := Lib.hid hC
  have hlen' : n ≤ 9223372036854775807 := by omega
  clear hlen hv
  replace hn := Lib.hid hn
  go_enter Try.func27, Try.ntmps27
  go_wp2_with fail
  go_loopw [9] (fun i wr => ∃ k : Nat, k ≤ n ∧ i = .int .i64 k ∧ Hid (∀ j, j < k → 0 ≤ (l.getD j default).2.1 ∧ (l.getD j default).2.1 < m) ∧ Below w.heap.size w wr) (fun i _ => n + 1 - (intOf i).toNat)
  case atStart => exact ⟨0, Nat.zero_le _, rfl, (fun j hj => by omega), Below.refl _ _⟩
  case round =>
    obtain ⟨k, hk, rfl, hF, hB⟩ := hrel
    by_cases hlt : k < n
    · obtain ⟨g, off, rfl, hcap, _, hg, c0, c1, c2⟩ := hC.out wr k hB hlt
      have hlt' : (k : Int) < (n : Int) := by omega
      have hH2 := Lib.hid (hH.out k hlt)
      have hF2 := Lib.hid (fun (h : 0 ≤ (l.getD k default).2.1 ∧ (l.getD k default).2.1 < m) j (hj : j < k + 1) => show 0 ≤ (l.getD j default).2.1 ∧ (l.getD j default).2.1 < m from by
        by_cases e : j = k
        · subst e; exact h
        · exact hF.out j (by omega))
      generalize l.getD k default = o at *
      obtain ⟨x, a, y⟩ := o
      simp only [] at c0 c1 c2
      by_cases q1 : a < 0
      · have hR := Lib.hid (hH2.out (by simp only []; omega))
        clear hH2 hF2
        go_wp2_with fail
        go_ret
        exact ⟨by rw [hR.out]; rfl, hB.alloc hB.size _⟩
      by_cases q2 : m ≤ a
      · have hR := Lib.hid (hH2.out (by simp only []; omega))
        clear hH2 hF2
        go_wp2_with fail
        go_ret
        exact ⟨by rw [hR.out]; rfl, hB.alloc hB.size _⟩
      · have hF3 := Lib.hid (hF2.out (by simp only []; omega))
        clear hH2 hF2
        go_wp2_with fail
        go_roundw
        case rel => exact ⟨k + 1, by omega, by go_num, hF3.out, hB.alloc hB.size _⟩
        case measure => simp [intOf]; omega
    · have hR := Lib.hid (hT.out (fun j hj => hF.out j (by omega)))
      obtain rfl : k = n := by omega
      go_wp2_with fail
      go_ret
      exact ⟨by rw [hR.out]; rfl, hB⟩

set_option maxHeartbeats 1000000 in
theorem refWithin_any (v : Value) (l : List Ox) (m : Int) (w : World) (hlen : l.length ≤ 9223372036854775807) (hv : OPL w v l) :
    Calls Try.prog 28 #[v, .int .i64 m] w fun e w' => e = .returned (.bool (withinB l m)) ∧ Below w.heap.size w w' := by
  obtain ⟨n, hn⟩ : ∃ n, l.length = n := ⟨_, rfl⟩
  obtain ⟨A, cap, rfl, hC⟩ := hv.form hn
  have hT := Lib.hid (fun (h : ∀ j, j < n → 0 ≤ (l.getD j default).2.1 ∧ (l.getD j default).2.1 < m) => within_yes (l := l) (n := m) (fun j hj => h j (by omega)))
  have hH := Lib.hid (fun k (h : k < n) hw => within_no (l := l) (n := m) (k := k) (by omega) hw)
  replace hC := Lib.hid hC
  have hlen' : n ≤ 9223372036854775807 := by omega
  clear hlen hv
  replace hn := Lib.hid hn
  go_enter Try.func28, Try.ntmps28
  go_wp2_with fail
  go_loopw [5] (fun i wr => ∃ k : Nat, k ≤ n ∧ i = .int .i64 k ∧ Hid (∀ j, j < k → 0 ≤ (l.getD j default).2.1 ∧ (l.getD j default).2.1 < m) ∧ Below w.heap.size w wr) (fun i _ => n + 1 - (intOf i).toNat)
  case atStart => exact ⟨0, Nat.zero_le _, rfl, (fun j hj => by omega), Below.refl _ _⟩
  case round =>
    obtain ⟨k, hk, rfl, hF, hB⟩ := hrel
    by_cases hlt : k < n
    · obtain ⟨g, off, rfl, hcap, _, hg, c0, c1, c2⟩ := hC.out wr k hB hlt
      have hlt' : (k : Int) < (n : Int) := by omega
      have hH2 := Lib.hid (hH.out k hlt)
      have hF2 := Lib.hid (fun (h : 0 ≤ (l.getD k default).2.1 ∧ (l.getD k default).2.1 < m) j (hj : j < k + 1) => show 0 ≤ (l.getD j default).2.1 ∧ (l.getD j default).2.1 < m from by
        by_cases e : j = k
        · subst e; exact h
        · exact hF.out j (by omega))
      generalize l.getD k default = o at *
      obtain ⟨x, a, y⟩ := o
      simp only [] at c0 c1 c2
      by_cases q1 : a < 0
      · have hR := Lib.hid (hH2.out (by simp only []; omega))
        clear hH2 hF2
        go_wp2_with fail
        go_ret
        exact ⟨by rw [hR.out]; rfl, hB⟩
      by_cases q2 : m ≤ a
      · have hR := Lib.hid (hH2.out (by simp only []; omega))
        clear hH2 hF2
        go_wp2_with fail
        go_ret
        exact ⟨by rw [hR.out]; rfl, hB⟩
      · have hF3 := Lib.hid (hF2.out (by simp only []; omega))
        clear hH2 hF2
        go_wp2_with fail
        go_roundw
        case rel => exact ⟨k + 1, by omega, by go_num, hF3.out, hB⟩
        case measure => simp [intOf]; omega
    · have hR := Lib.hid (hT.out (fun j hj => hF.out j (by omega)))
      obtain rfl : k = n := by omega
      go_wp2_with fail
      go_ret
      exact ⟨by rw [hR.out]; rfl, hB⟩

set_option maxHeartbeats 2000000 in
theorem opsame_any (v u : Value) (l m : List Ox) (w : World) (hlen : l.length ≤ 1000000) (hv : OPL w v l) (hu : OPL w u m) :
    Calls Try.prog 21 #[v, u] w fun e w' => e = .returned (.bool (decide (l = m))) ∧ Below w.heap.size w w' := by
  obtain ⟨n, hn⟩ : ∃ n, l.length = n := ⟨_, rfl⟩
  obtain ⟨n2, hn2⟩ : ∃ n, m.length = n := ⟨_, rfl⟩
  obtain ⟨A, cap, rfl, hC⟩ := hv.form hn
  obtain ⟨A2, cap2, rfl, hC2⟩ := hu.form hn2
  have hne := Lib.hid (fun (h : ¬ l = m) => show decide (l = m) = false from decide_eq_false h)
  by_cases hnn : n = n2
  · subst hnn
    have hyes := Lib.hid (fun (h : ∀ j, j < n → l.getD j default = m.getD j default) => show decide (l = m) = true from by
      refine decide_eq_true ?_
      apply List.ext_getElem (by omega)
      intro i h1 h2
      have := h i (by omega)
      rwa [List.getD_eq_getElem?_getD, List.getD_eq_getElem?_getD, List.getElem?_eq_getElem h1, List.getElem?_eq_getElem h2] at this)
    replace hC := Lib.hid hC
    replace hC2 := Lib.hid hC2
    have hlen' : n ≤ 1000000 := by omega
    clear hlen
    replace hn := Lib.hid hn
    replace hn2 := Lib.hid hn2
    go_enter Try.func21, Try.ntmps21
    go_wp2_with fail
    go_loopw [5] (fun i wr => ∃ k : Nat, k ≤ n ∧ i = .int .i64 k ∧ Hid (∀ j, j < k → l.getD j default = m.getD j default) ∧ Below w.heap.size w wr) (fun i _ => n + 1 - (intOf i).toNat)
    case atStart => exact ⟨0, Nat.zero_le _, rfl, (fun j hj => by omega), Below.refl _ _⟩
    case round =>
      obtain ⟨k, hk, rfl, hF, hB⟩ := hrel
      by_cases hlt : k < n
      · obtain ⟨g, off, rfl, hcap, _, hg, c0, c1, c2⟩ := hC.out wr k hB hlt
        obtain ⟨g2, off2, rfl, hcap2, _, hg2, d0, d1, d2⟩ := hC2.out wr k hB hlt
        have hlt' : (k : Int) < (n : Int) := by omega
        have hF2 := Lib.hid (fun (h : l.getD k default = m.getD k default) j (hj : j < k + 1) => show l.getD j default = m.getD j default from by
          by_cases e : j = k
          · subst e; exact h
          · exact hF.out j (by omega))
        have hF3 := Lib.hid (fun (h : ¬ l.getD k default = m.getD k default) => show decide (l = m) = false from decide_eq_false (fun q => h (by rw [q])))
        generalize l.getD k default = s at *
        generalize m.getD k default = t at *
        obtain ⟨x, a, y⟩ := s
        obtain ⟨x2, a2, y2⟩ := t
        simp only [] at c0 c1 c2 d0 d1 d2
        by_cases hx : x = x2
        · subst hx
          by_cases ha : a = a2
          · subst ha
            by_cases hy : y = y2
            · subst hy
              have hR := Lib.hid (hF2.out rfl)
              clear hF2 hF3
              go_wp2_with fail
              refine wp_region_held_drew (S := (fun w' => w'.cell? ⟨g, off + k * 3, none⟩ = some (.int .i64 x) ∧ w'.cell? ⟨g, off + k * 3 + 1, none⟩ = some (.int .i64 a) ∧ w'.cell? ⟨g, off + k * 3 + 2, none⟩ = some (.int .u64 (y : Nat)) ∧ w'.cell? ⟨g2, off2 + k * 3, none⟩ = some (.int .i64 x) ∧ w'.cell? ⟨g2, off2 + k * 3 + 1, none⟩ = some (.int .i64 a) ∧ w'.cell? ⟨g2, off2 + k * 3 + 2, none⟩ = some (.int .u64 (y : Nat)) ∧ Below w.heap.size w w')) (by kernel_rfl) ?_ (fun hHeld => ?_)
              · (try dsimp only)
                (first | assumption | exact ⟨c0, c1, c2, d0, d1, d2, hB.drew⟩)
              refine takeL 0 (v := ?_) rfl (by kernel_rfl) (by kernel_rfl) (by kernel_rfl) (fun _ _ _ h => h) (by rfl) (by assumption) ?_ ?_
              rotate_left
              · (intro w hSw; (try dsimp only at hSw); (try go_split_ands); go_simp <;> with_reducible rfl)
              try simp only [Act.put, List.setIfInBounds_toArray, List.set_cons_zero, List.set_cons_succ]
              refine takeL 1 (v := ?_) rfl (by kernel_rfl) (by kernel_rfl) (by kernel_rfl) (fun _ _ _ h => h) (by rfl) (by assumption) ?_ ?_
              rotate_left
              · (intro w hSw; (try dsimp only at hSw); (try go_split_ands); go_simp <;> with_reducible rfl)
              try simp only [Act.put, List.setIfInBounds_toArray, List.set_cons_zero, List.set_cons_succ]
              refine takeL 2 (v := ?_) rfl (by kernel_rfl) (by kernel_rfl) (by kernel_rfl) (fun _ _ _ h => h) (by rfl) (by assumption) ?_ ?_
              rotate_left
              · (intro w hSw; (try dsimp only at hSw); (try go_split_ands); go_simp <;> with_reducible rfl)
              try simp only [Act.put, List.setIfInBounds_toArray, List.set_cons_zero, List.set_cons_succ]
              refine takeL 3 (v := ?_) rfl (by kernel_rfl) (by kernel_rfl) (by kernel_rfl) (fun _ _ _ h => h) (by rfl) (by assumption) ?_ ?_
              rotate_left
              · (intro w hSw; (try dsimp only at hSw); (try go_split_ands); go_simp <;> with_reducible rfl)
              try simp only [Act.put, List.setIfInBounds_toArray, List.set_cons_zero, List.set_cons_succ]
              refine takeL 4 (v := ?_) rfl (by kernel_rfl) (by kernel_rfl) (by kernel_rfl) (fun _ _ _ h => h) (by rfl) (by assumption) ?_ ?_
              rotate_left
              · (intro w hSw; (try dsimp only at hSw); (try go_split_ands); go_simp <;> with_reducible rfl)
              try simp only [Act.put, List.setIfInBounds_toArray, List.set_cons_zero, List.set_cons_succ]
              refine takeL 5 (v := ?_) rfl (by kernel_rfl) (by kernel_rfl) (by kernel_rfl) (fun _ _ _ h => h) (by rfl) (by assumption) ?_ ?_
              rotate_left
              · (intro w hSw; (try dsimp only at hSw); (try go_split_ands); go_simp <;> with_reducible rfl)
              try simp only [Act.put, List.setIfInBounds_toArray, List.set_cons_zero, List.set_cons_succ]
              refine takeL 6 (v := ?_) rfl (by kernel_rfl) (by kernel_rfl) (by kernel_rfl) (fun _ _ _ h => h) (by rfl) (by assumption) ?_ ?_
              rotate_left
              · (intro w hSw; (try dsimp only at hSw); (try go_split_ands); go_simp <;> with_reducible rfl)
              try simp only [Act.put, List.setIfInBounds_toArray, List.set_cons_zero, List.set_cons_succ]
              refine takeL 7 (v := ?_) rfl (by kernel_rfl) (by kernel_rfl) (by kernel_rfl) (fun _ _ _ h => h) (by rfl) (by assumption) ?_ ?_
              rotate_left
              · (intro w hSw; (try dsimp only at hSw); (try go_split_ands); go_simp <;> with_reducible rfl)
              try simp only [Act.put, List.setIfInBounds_toArray, List.set_cons_zero, List.set_cons_succ]
              refine takeL 8 (v := ?_) rfl (by kernel_rfl) (by kernel_rfl) (by kernel_rfl) (fun _ _ _ h => h) (by rfl) (by assumption) ?_ ?_
              rotate_left
              · (intro w hSw; (try dsimp only at hSw); (try go_split_ands); go_simp <;> with_reducible rfl)
              try simp only [Act.put, List.setIfInBounds_toArray, List.set_cons_zero, List.set_cons_succ]
              refine wpAnyH_done (by kernel_rfl) ?_ _
              clear hHeld
              go_wp2_with fail
              go_roundw
              case rel => exact ⟨k + 1, by omega, by go_num, hR, hB.drew⟩
              case measure => simp [intOf]; omega
            · have hR := Lib.hid (hF3.out (by simp [hy]))
              have f1 : ((y : Int) == (y2 : Int)) = false := by rw [beq_eq_false_iff_ne]; omega
              clear hy hF2 hF3
              go_wp2_with fail
              refine wp_region_held_drew (S := (fun w' => w'.cell? ⟨g, off + k * 3, none⟩ = some (.int .i64 x) ∧ w'.cell? ⟨g, off + k * 3 + 1, none⟩ = some (.int .i64 a) ∧ w'.cell? ⟨g, off + k * 3 + 2, none⟩ = some (.int .u64 (y : Nat)) ∧ w'.cell? ⟨g2, off2 + k * 3, none⟩ = some (.int .i64 x) ∧ w'.cell? ⟨g2, off2 + k * 3 + 1, none⟩ = some (.int .i64 a) ∧ w'.cell? ⟨g2, off2 + k * 3 + 2, none⟩ = some (.int .u64 (y2 : Nat)) ∧ Below w.heap.size w w')) (by kernel_rfl) ?_ (fun hHeld => ?_)
              · (try dsimp only)
                (first | assumption | exact ⟨c0, c1, c2, d0, d1, d2, hB.drew⟩)
              refine takeL 0 (v := ?_) rfl (by kernel_rfl) (by kernel_rfl) (by kernel_rfl) (fun _ _ _ h => h) (by rfl) (by assumption) ?_ ?_
              rotate_left
              · (intro w hSw; (try dsimp only at hSw); (try go_split_ands); go_simp <;> with_reducible rfl)
              try simp only [Act.put, List.setIfInBounds_toArray, List.set_cons_zero, List.set_cons_succ]
              refine takeL 1 (v := ?_) rfl (by kernel_rfl) (by kernel_rfl) (by kernel_rfl) (fun _ _ _ h => h) (by rfl) (by assumption) ?_ ?_
              rotate_left
              · (intro w hSw; (try dsimp only at hSw); (try go_split_ands); go_simp <;> with_reducible rfl)
              try simp only [Act.put, List.setIfInBounds_toArray, List.set_cons_zero, List.set_cons_succ]
              refine takeL 2 (v := ?_) rfl (by kernel_rfl) (by kernel_rfl) (by kernel_rfl) (fun _ _ _ h => h) (by rfl) (by assumption) ?_ ?_
              rotate_left
              · (intro w hSw; (try dsimp only at hSw); (try go_split_ands); go_simp <;> with_reducible rfl)
              try simp only [Act.put, List.setIfInBounds_toArray, List.set_cons_zero, List.set_cons_succ]
              refine takeL 3 (v := ?_) rfl (by kernel_rfl) (by kernel_rfl) (by kernel_rfl) (fun _ _ _ h => h) (by rfl) (by assumption) ?_ ?_
              rotate_left
              · (intro w hSw; (try dsimp only at hSw); (try go_split_ands); go_simp <;> with_reducible rfl)
              try simp only [Act.put, List.setIfInBounds_toArray, List.set_cons_zero, List.set_cons_succ]
              refine takeL 4 (v := ?_) rfl (by kernel_rfl) (by kernel_rfl) (by kernel_rfl) (fun _ _ _ h => h) (by rfl) (by assumption) ?_ ?_
              rotate_left
              · (intro w hSw; (try dsimp only at hSw); (try go_split_ands); go_simp <;> with_reducible rfl)
              try simp only [Act.put, List.setIfInBounds_toArray, List.set_cons_zero, List.set_cons_succ]
              refine takeL 5 (v := ?_) rfl (by kernel_rfl) (by kernel_rfl) (by kernel_rfl) (fun _ _ _ h => h) (by rfl) (by assumption) ?_ ?_
              rotate_left
              · (intro w hSw; (try dsimp only at hSw); (try go_split_ands); go_simp <;> with_reducible rfl)
              try simp only [Act.put, List.setIfInBounds_toArray, List.set_cons_zero, List.set_cons_succ]
              refine takeL 6 (v := ?_) rfl (by kernel_rfl) (by kernel_rfl) (by kernel_rfl) (fun _ _ _ h => h) (by rfl) (by assumption) ?_ ?_
              rotate_left
              · (intro w hSw; (try dsimp only at hSw); (try go_split_ands); go_simp <;> with_reducible rfl)
              try simp only [Act.put, List.setIfInBounds_toArray, List.set_cons_zero, List.set_cons_succ]
              refine takeL 7 (v := ?_) rfl (by kernel_rfl) (by kernel_rfl) (by kernel_rfl) (fun _ _ _ h => h) (by rfl) (by assumption) ?_ ?_
              rotate_left
              · (intro w hSw; (try dsimp only at hSw); (try go_split_ands); go_simp <;> with_reducible rfl)
              try simp only [Act.put, List.setIfInBounds_toArray, List.set_cons_zero, List.set_cons_succ]
              refine takeL 8 (v := ?_) rfl (by kernel_rfl) (by kernel_rfl) (by kernel_rfl) (fun _ _ _ h => h) (by rfl) (by assumption) ?_ ?_
              rotate_left
              · (intro w hSw; (try dsimp only at hSw); (try go_split_ands); go_simp <;> with_reducible rfl)
              try simp only [Act.put, List.setIfInBounds_toArray, List.set_cons_zero, List.set_cons_succ]
              refine wpAnyH_done (by kernel_rfl) ?_ _
              clear hHeld
              go_wp2_with fail
              go_ret
              exact ⟨by rw [hR.out]; rfl, hB.drew⟩
          · have hR := Lib.hid (hF3.out (by simp [ha]))
            have f1 : (a == a2) = false := by rw [beq_eq_false_iff_ne]; exact ha
            clear ha hF2 hF3
            go_wp2_with fail
            refine wp_region_held_drew (S := (fun w' => w'.cell? ⟨g, off + k * 3, none⟩ = some (.int .i64 x) ∧ w'.cell? ⟨g, off + k * 3 + 1, none⟩ = some (.int .i64 a) ∧ w'.cell? ⟨g, off + k * 3 + 2, none⟩ = some (.int .u64 (y : Nat)) ∧ w'.cell? ⟨g2, off2 + k * 3, none⟩ = some (.int .i64 x) ∧ w'.cell? ⟨g2, off2 + k * 3 + 1, none⟩ = some (.int .i64 a2) ∧ w'.cell? ⟨g2, off2 + k * 3 + 2, none⟩ = some (.int .u64 (y2 : Nat)) ∧ Below w.heap.size w w')) (by kernel_rfl) ?_ (fun hHeld => ?_)
            · (try dsimp only)
              (first | assumption | exact ⟨c0, c1, c2, d0, d1, d2, hB.drew⟩)
            refine takeL 0 (v := ?_) rfl (by kernel_rfl) (by kernel_rfl) (by kernel_rfl) (fun _ _ _ h => h) (by rfl) (by assumption) ?_ ?_
            rotate_left
            · (intro w hSw; (try dsimp only at hSw); (try go_split_ands); go_simp <;> with_reducible rfl)
            try simp only [Act.put, List.setIfInBounds_toArray, List.set_cons_zero, List.set_cons_succ]
            refine takeL 1 (v := ?_) rfl (by kernel_rfl) (by kernel_rfl) (by kernel_rfl) (fun _ _ _ h => h) (by rfl) (by assumption) ?_ ?_
            rotate_left
            · (intro w hSw; (try dsimp only at hSw); (try go_split_ands); go_simp <;> with_reducible rfl)
            try simp only [Act.put, List.setIfInBounds_toArray, List.set_cons_zero, List.set_cons_succ]
            refine takeL 2 (v := ?_) rfl (by kernel_rfl) (by kernel_rfl) (by kernel_rfl) (fun _ _ _ h => h) (by rfl) (by assumption) ?_ ?_
            rotate_left
            · (intro w hSw; (try dsimp only at hSw); (try go_split_ands); go_simp <;> with_reducible rfl)
            try simp only [Act.put, List.setIfInBounds_toArray, List.set_cons_zero, List.set_cons_succ]
            refine takeL 3 (v := ?_) rfl (by kernel_rfl) (by kernel_rfl) (by kernel_rfl) (fun _ _ _ h => h) (by rfl) (by assumption) ?_ ?_
            rotate_left
            · (intro w hSw; (try dsimp only at hSw); (try go_split_ands); go_simp <;> with_reducible rfl)
            try simp only [Act.put, List.setIfInBounds_toArray, List.set_cons_zero, List.set_cons_succ]
            refine takeL 4 (v := ?_) rfl (by kernel_rfl) (by kernel_rfl) (by kernel_rfl) (fun _ _ _ h => h) (by rfl) (by assumption) ?_ ?_
            rotate_left
            · (intro w hSw; (try dsimp only at hSw); (try go_split_ands); go_simp <;> with_reducible rfl)
            try simp only [Act.put, List.setIfInBounds_toArray, List.set_cons_zero, List.set_cons_succ]
            refine takeL 5 (v := ?_) rfl (by kernel_rfl) (by kernel_rfl) (by kernel_rfl) (fun _ _ _ h => h) (by rfl) (by assumption) ?_ ?_
            rotate_left
            · (intro w hSw; (try dsimp only at hSw); (try go_split_ands); go_simp <;> with_reducible rfl)
            try simp only [Act.put, List.setIfInBounds_toArray, List.set_cons_zero, List.set_cons_succ]
            refine takeL 6 (v := ?_) rfl (by kernel_rfl) (by kernel_rfl) (by kernel_rfl) (fun _ _ _ h => h) (by rfl) (by assumption) ?_ ?_
            rotate_left
            · (intro w hSw; (try dsimp only at hSw); (try go_split_ands); go_simp <;> with_reducible rfl)
            try simp only [Act.put, List.setIfInBounds_toArray, List.set_cons_zero, List.set_cons_succ]
            refine takeL 7 (v := ?_) rfl (by kernel_rfl) (by kernel_rfl) (by kernel_rfl) (fun _ _ _ h => h) (by rfl) (by assumption) ?_ ?_
            rotate_left
            · (intro w hSw; (try dsimp only at hSw); (try go_split_ands); go_simp <;> with_reducible rfl)
            try simp only [Act.put, List.setIfInBounds_toArray, List.set_cons_zero, List.set_cons_succ]
            refine takeL 8 (v := ?_) rfl (by kernel_rfl) (by kernel_rfl) (by kernel_rfl) (fun _ _ _ h => h) (by rfl) (by assumption) ?_ ?_
            rotate_left
            · (intro w hSw; (try dsimp only at hSw); (try go_split_ands); go_simp <;> with_reducible rfl)
            try simp only [Act.put, List.setIfInBounds_toArray, List.set_cons_zero, List.set_cons_succ]
            refine wpAnyH_done (by kernel_rfl) ?_ _
            clear hHeld
            go_wp2_with fail
            go_ret
            exact ⟨by rw [hR.out]; rfl, hB.drew⟩
        · have hR := Lib.hid (hF3.out (by simp [hx]))
          have f1 : (x == x2) = false := by rw [beq_eq_false_iff_ne]; exact hx
          clear hx hF2 hF3
          go_wp2_with fail
          refine wp_region_held_drew (S := (fun w' => w'.cell? ⟨g, off + k * 3, none⟩ = some (.int .i64 x) ∧ w'.cell? ⟨g, off + k * 3 + 1, none⟩ = some (.int .i64 a) ∧ w'.cell? ⟨g, off + k * 3 + 2, none⟩ = some (.int .u64 (y : Nat)) ∧ w'.cell? ⟨g2, off2 + k * 3, none⟩ = some (.int .i64 x2) ∧ w'.cell? ⟨g2, off2 + k * 3 + 1, none⟩ = some (.int .i64 a2) ∧ w'.cell? ⟨g2, off2 + k * 3 + 2, none⟩ = some (.int .u64 (y2 : Nat)) ∧ Below w.heap.size w w')) (by kernel_rfl) ?_ (fun hHeld => ?_)
          · (try dsimp only)
            (first | assumption | exact ⟨c0, c1, c2, d0, d1, d2, hB.drew⟩)
          refine takeL 0 (v := ?_) rfl (by kernel_rfl) (by kernel_rfl) (by kernel_rfl) (fun _ _ _ h => h) (by rfl) (by assumption) ?_ ?_
          rotate_left
          · (intro w hSw; (try dsimp only at hSw); (try go_split_ands); go_simp <;> with_reducible rfl)
          try simp only [Act.put, List.setIfInBounds_toArray, List.set_cons_zero, List.set_cons_succ]
          refine takeL 1 (v := ?_) rfl (by kernel_rfl) (by kernel_rfl) (by kernel_rfl) (fun _ _ _ h => h) (by rfl) (by assumption) ?_ ?_
          rotate_left
          · (intro w hSw; (try dsimp only at hSw); (try go_split_ands); go_simp <;> with_reducible rfl)
          try simp only [Act.put, List.setIfInBounds_toArray, List.set_cons_zero, List.set_cons_succ]
          refine takeL 2 (v := ?_) rfl (by kernel_rfl) (by kernel_rfl) (by kernel_rfl) (fun _ _ _ h => h) (by rfl) (by assumption) ?_ ?_
          rotate_left
          · (intro w hSw; (try dsimp only at hSw); (try go_split_ands); go_simp <;> with_reducible rfl)
          try simp only [Act.put, List.setIfInBounds_toArray, List.set_cons_zero, List.set_cons_succ]
          refine takeL 3 (v := ?_) rfl (by kernel_rfl) (by kernel_rfl) (by kernel_rfl) (fun _ _ _ h => h) (by rfl) (by assumption) ?_ ?_
          rotate_left
          · (intro w hSw; (try dsimp only at hSw); (try go_split_ands); go_simp <;> with_reducible rfl)
          try simp only [Act.put, List.setIfInBounds_toArray, List.set_cons_zero, List.set_cons_succ]
          refine takeL 4 (v := ?_) rfl (by kernel_rfl) (by kernel_rfl) (by kernel_rfl) (fun _ _ _ h => h) (by rfl) (by assumption) ?_ ?_
          rotate_left
          · (intro w hSw; (try dsimp only at hSw); (try go_split_ands); go_simp <;> with_reducible rfl)
          try simp only [Act.put, List.setIfInBounds_toArray, List.set_cons_zero, List.set_cons_succ]
          refine takeL 5 (v := ?_) rfl (by kernel_rfl) (by kernel_rfl) (by kernel_rfl) (fun _ _ _ h => h) (by rfl) (by assumption) ?_ ?_
          rotate_left
          · (intro w hSw; (try dsimp only at hSw); (try go_split_ands); go_simp <;> with_reducible rfl)
          try simp only [Act.put, List.setIfInBounds_toArray, List.set_cons_zero, List.set_cons_succ]
          refine takeL 6 (v := ?_) rfl (by kernel_rfl) (by kernel_rfl) (by kernel_rfl) (fun _ _ _ h => h) (by rfl) (by assumption) ?_ ?_
          rotate_left
          · (intro w hSw; (try dsimp only at hSw); (try go_split_ands); go_simp <;> with_reducible rfl)
          try simp only [Act.put, List.setIfInBounds_toArray, List.set_cons_zero, List.set_cons_succ]
          refine takeL 7 (v := ?_) rfl (by kernel_rfl) (by kernel_rfl) (by kernel_rfl) (fun _ _ _ h => h) (by rfl) (by assumption) ?_ ?_
          rotate_left
          · (intro w hSw; (try dsimp only at hSw); (try go_split_ands); go_simp <;> with_reducible rfl)
          try simp only [Act.put, List.setIfInBounds_toArray, List.set_cons_zero, List.set_cons_succ]
          refine takeL 8 (v := ?_) rfl (by kernel_rfl) (by kernel_rfl) (by kernel_rfl) (fun _ _ _ h => h) (by rfl) (by assumption) ?_ ?_
          rotate_left
          · (intro w hSw; (try dsimp only at hSw); (try go_split_ands); go_simp <;> with_reducible rfl)
          try simp only [Act.put, List.setIfInBounds_toArray, List.set_cons_zero, List.set_cons_succ]
          refine wpAnyH_done (by kernel_rfl) ?_ _
          clear hHeld
          go_wp2_with fail
          go_ret
          exact ⟨by rw [hR.out]; rfl, hB.drew⟩
      · obtain rfl : k = n := by omega
        have hR := Lib.hid (hyes.out hF.out)
        go_wp2_with fail
        go_ret
        exact ⟨by rw [hR.out]; rfl, hB⟩
  · have hR := Lib.hid (hne.out (fun h => hnn (by rw [← hn, ← hn2, h])))
    have f1 : ((n : Int) != (n2 : Int)) = true := by rw [bne_iff_ne]; omega
    clear hn hn2 hv hu hC hC2 hnn
    go_enter Try.func21, Try.ntmps21
    go_wp2_with fail
    go_ret
    exact ⟨by rw [hR.out]; rfl, Below.refl _ _⟩
end Go.Proofs.Ytibhahbimoiaaaa
