/-
  Layer 20 (tx): what the statements' own functions answer: Ints, few, fresh; the document's Noted.
-/
import Derived.Test.YtcemiclbeocnjaaTk15
set_option linter.unusedVariables false
set_option linter.unusedSimpArgs false
namespace Go.Proofs.Ytcemiclbeocnjaa
open Go.RowKit Go.ChangeShapes Go.WideShapes Go.Deep Go.Maps

set_option maxHeartbeats 1000000 in
theorem ints_any (v u : Value) (l m : List Int) (w : World) (hlen : l.length ≤ 1000000) (hv : EL 1 iE w v l) (hu : EL 1 iE w u m) :
    Calls Try.prog 19 #[v, u] w fun e w' => e = .returned (.bool (decide (l = m))) ∧ Below w.heap.size w w' := by
  obtain ⟨n, hn⟩ : ∃ n, l.length = n := ⟨_, rfl⟩
  obtain ⟨n2, hn2⟩ : ∃ n, m.length = n := ⟨_, rfl⟩
  obtain ⟨A, cap, rfl, hC⟩ := hv.form hn
  obtain ⟨A2, cap2, rfl, hC2⟩ := hu.form hn2
  have hne := Lib.hid (fun (h : ¬ l = m) => show decide (l = m) = false from decide_eq_false h)
  by_cases hnn : n = n2
  · subst hnn
    have hyes := Lib.hid (fun (h : ∀ j, j < n → l.getD j default = m.getD j default) => show decide (l = m) = true from by
      refine decide_eq_true ?_
      apply List.ext_getElem (by omega)
      intro i h1 h2
      have := h i (by omega)
      rwa [List.getD_eq_getElem?_getD, List.getD_eq_getElem?_getD, List.getElem?_eq_getElem h1, List.getElem?_eq_getElem h2] at this)
    replace hC := Lib.hid hC
    replace hC2 := Lib.hid hC2
    have hlen' : n ≤ 1000000 := by omega
    clear hlen
    replace hn := Lib.hid hn
    replace hn2 := Lib.hid hn2
    go_enter Try.func19, Try.ntmps19
    go_wp2_with fail
    go_loopw [5] (fun i wr => ∃ k : Nat, k ≤ n ∧ i = .int .i64 k ∧ Hid (∀ j, j < k → l.getD j default = m.getD j default) ∧ Below w.heap.size w wr) (fun i _ => n + 1 - (intOf i).toNat)
    case atStart => exact ⟨0, Nat.zero_le _, rfl, (fun j hj => by omega), Below.refl _ _⟩
    case round =>
      obtain ⟨k, hk, rfl, hF, hB⟩ := hrel
      by_cases hlt : k < n
      · obtain ⟨g, off, rfl, hcap, _, hg, hcl⟩ := hC.out wr k hB hlt
        obtain ⟨g2, off2, rfl, hcap2, _, hg2, hcl2⟩ := hC2.out wr k hB hlt
        have c0 := hcl 0 (by omega)
        have d0 := hcl2 0 (by omega)
        rw [Nat.add_zero, Nat.mul_one] at c0 d0
        clear hcl hcl2
        have hlt' : (k : Int) < (n : Int) := by omega
        have hF2 := Lib.hid (fun (h : l.getD k default = m.getD k default) j (hj : j < k + 1) => show l.getD j default = m.getD j default from by
          by_cases e : j = k
          · subst e; exact h
          · exact hF.out j (by omega))
        have hF3 := Lib.hid (fun (h : ¬ l.getD k default = m.getD k default) => show decide (l = m) = false from decide_eq_false (fun q => h (by rw [q])))
        generalize l.getD k default = a at *
        generalize m.getD k default = c at *
        replace c0 : wr.cell? ⟨g, off + k, none⟩ = some (.int .i64 a) := c0
        replace d0 : wr.cell? ⟨g2, off2 + k, none⟩ = some (.int .i64 c) := d0
        by_cases hac : a = c
        · subst hac
          have hR := Lib.hid (hF2.out rfl)
          go_wp2_with fail
          go_region
          all_goals (try go_wp2_with fail)
          go_roundw
          case rel => exact ⟨k + 1, by omega, by go_num, hR, hB.drew⟩
          case measure => simp [intOf]; omega
        · have hR := Lib.hid (hF3.out hac)
          have f1 : (a == c) = false := by rw [beq_eq_false_iff_ne]; omega
          have f2 : (a != c) = true := by rw [bne_iff_ne]; omega
          go_wp2_with fail
          go_region
          all_goals (try go_wp2_with fail)
          all_goals
            go_ret
            exact ⟨by rw [hR.out]; rfl, hB.drew⟩
      · obtain rfl : k = n := by omega
        have hR := Lib.hid (hyes.out hF.out)
        go_wp2_with fail
        go_ret
        exact ⟨by rw [hR.out]; rfl, hB⟩
  · have hR := Lib.hid (hne.out (fun h => hnn (by rw [← hn, ← hn2, h])))
    have f1 : ((n : Int) != (n2 : Int)) = true := by rw [bne_iff_ne]; omega
    clear hn hn2 hv hu hC hC2 hnn
    go_enter Try.func19, Try.ntmps19
    go_wp2_with fail
    go_ret
    exact ⟨by rw [hR.out]; rfl, Below.refl _ _⟩

set_option maxRecDepth 10000 in
set_option maxHeartbeats 2000000 in
theorem freshSame_any (v u : Value) (l : List Fx) (w : World) (hlen : l.length ≤ 1000000) (hv : EL 9 fE w v l) (hu : EL 9 fE w u l) :
    Calls Try.prog 74 #[v, u] w fun e w' => e = .returned (.bool true) ∧ Below w.heap.size w w' := by
  obtain ⟨n, hn⟩ : ∃ n, l.length = n := ⟨_, rfl⟩
  obtain ⟨A, cap, rfl, hC⟩ := hv.form hn
  obtain ⟨A2, cap2, rfl, hC2⟩ := hu.form hn
  replace hC := Lib.hid hC
  replace hC2 := Lib.hid hC2
  have hlen' : n ≤ 1000000 := by omega
  have t1 : ((n : Int) != (n : Int)) = false := by simp
  clear hlen hn hv hu
  go_enter Try.func74, Try.ntmps74
  go_wp2_with fail
  go_loopw [5] (fun i wr => ∃ k : Nat, k ≤ n ∧ i = .int .i64 k ∧ Below w.heap.size w wr) (fun i _ => n + 1 - (intOf i).toNat)
  case atStart => exact ⟨0, Nat.zero_le _, rfl, Below.refl _ _⟩
  case round =>
    obtain ⟨k, hk, rfl, hB⟩ := hrel
    by_cases hlt : k < n
    · obtain ⟨g, off, rfl, hcap, _, hg, hcl⟩ := hC.out wr k hB hlt
      obtain ⟨g2, off2, rfl, hcap2, _, hg2, hcl2⟩ := hC2.out wr k hB hlt
      have hlt' : (k : Int) < (n : Int) := by omega
      generalize l.getD k default = f at *
      obtain ⟨⟨a1, a2, a3, a4, a5⟩, a6, a7, a8, a9⟩ := f
      have c0 : wr.drew.cell? ⟨g, off + k * 9, none⟩ = some (.int .i64 a1) := hcl 0 (by omega)
      have c1 : wr.drew.cell? ⟨g, off + k * 9 + 1, none⟩ = some (.int .i64 a2) := hcl 1 (by omega)
      have c2 : wr.drew.cell? ⟨g, off + k * 9 + 2, none⟩ = some (.int .i64 a3) := hcl 2 (by omega)
      have c3 : wr.drew.cell? ⟨g, off + k * 9 + 3, none⟩ = some (.int .i64 a4) := hcl 3 (by omega)
      have c4 : wr.drew.cell? ⟨g, off + k * 9 + 4, none⟩ = some (.bool a5) := hcl 4 (by omega)
      have c5 : wr.drew.cell? ⟨g, off + k * 9 + 5, none⟩ = some (.int .i64 a6) := hcl 5 (by omega)
      have c6 : wr.drew.cell? ⟨g, off + k * 9 + 6, none⟩ = some (.int .i64 a7) := hcl 6 (by omega)
      have c7 : wr.drew.cell? ⟨g, off + k * 9 + 7, none⟩ = some (.int .i64 a8) := hcl 7 (by omega)
      have c8 : wr.drew.cell? ⟨g, off + k * 9 + 8, none⟩ = some (.int .u64 a9) := hcl 8 (by omega)
      have d0 : wr.drew.cell? ⟨g2, off2 + k * 9, none⟩ = some (.int .i64 a1) := hcl2 0 (by omega)
      have d1 : wr.drew.cell? ⟨g2, off2 + k * 9 + 1, none⟩ = some (.int .i64 a2) := hcl2 1 (by omega)
      have d2 : wr.drew.cell? ⟨g2, off2 + k * 9 + 2, none⟩ = some (.int .i64 a3) := hcl2 2 (by omega)
      have d3 : wr.drew.cell? ⟨g2, off2 + k * 9 + 3, none⟩ = some (.int .i64 a4) := hcl2 3 (by omega)
      have d4 : wr.drew.cell? ⟨g2, off2 + k * 9 + 4, none⟩ = some (.bool a5) := hcl2 4 (by omega)
      have d5 : wr.drew.cell? ⟨g2, off2 + k * 9 + 5, none⟩ = some (.int .i64 a6) := hcl2 5 (by omega)
      have d6 : wr.drew.cell? ⟨g2, off2 + k * 9 + 6, none⟩ = some (.int .i64 a7) := hcl2 6 (by omega)
      have d7 : wr.drew.cell? ⟨g2, off2 + k * 9 + 7, none⟩ = some (.int .i64 a8) := hcl2 7 (by omega)
      have d8 : wr.drew.cell? ⟨g2, off2 + k * 9 + 8, none⟩ = some (.int .u64 a9) := hcl2 8 (by omega)
      clear hcl hcl2
      have hdg : g < wr.drew.heap.size := hg
      have hdg2 : g2 < wr.drew.heap.size := hg2
      have hB2 := hB.drew
      go_wp2_with fail
      refine wp_region_held_drew (S := (fun w' => w' = wr.drew)) (by kernel_rfl) ?_ (fun hHeld => ?_)
      · (try dsimp only)
        all_goals rfl
      refine takeL 0 (v := ?_) rfl (by kernel_rfl) (by kernel_rfl) (by kernel_rfl) (fun _ _ _ h => h) (by rfl) (by assumption) ?_ ?_
      rotate_left
      · (intro w hSw; (try dsimp only at hSw); (subst hSw); go_simp <;> with_reducible rfl)
      try simp only [Act.put, List.setIfInBounds_toArray, List.set_cons_zero, List.set_cons_succ]
      refine takeL 1 (v := ?_) rfl (by kernel_rfl) (by kernel_rfl) (by kernel_rfl) (fun _ _ _ h => h) (by rfl) (by assumption) ?_ ?_
      rotate_left
      · (intro w hSw; (try dsimp only at hSw); (subst hSw); go_simp <;> with_reducible rfl)
      try simp only [Act.put, List.setIfInBounds_toArray, List.set_cons_zero, List.set_cons_succ]
      refine takeL 2 (v := ?_) rfl (by kernel_rfl) (by kernel_rfl) (by kernel_rfl) (fun _ _ _ h => h) (by rfl) (by assumption) ?_ ?_
      rotate_left
      · (intro w hSw; (try dsimp only at hSw); (subst hSw); go_simp <;> with_reducible rfl)
      try simp only [Act.put, List.setIfInBounds_toArray, List.set_cons_zero, List.set_cons_succ]
      refine takeL 3 (v := ?_) rfl (by kernel_rfl) (by kernel_rfl) (by kernel_rfl) (fun _ _ _ h => h) (by rfl) (by assumption) ?_ ?_
      rotate_left
      · (intro w hSw; (try dsimp only at hSw); (subst hSw); go_simp <;> with_reducible rfl)
      try simp only [Act.put, List.setIfInBounds_toArray, List.set_cons_zero, List.set_cons_succ]
      refine takeL 4 (v := ?_) rfl (by kernel_rfl) (by kernel_rfl) (by kernel_rfl) (fun _ _ _ h => h) (by rfl) (by assumption) ?_ ?_
      rotate_left
      · (intro w hSw; (try dsimp only at hSw); (subst hSw); go_simp <;> with_reducible rfl)
      try simp only [Act.put, List.setIfInBounds_toArray, List.set_cons_zero, List.set_cons_succ]
      refine takeL 5 (v := ?_) rfl (by kernel_rfl) (by kernel_rfl) (by kernel_rfl) (fun _ _ _ h => h) (by rfl) (by assumption) ?_ ?_
      rotate_left
      · (intro w hSw; (try dsimp only at hSw); (subst hSw); go_simp <;> with_reducible rfl)
      try simp only [Act.put, List.setIfInBounds_toArray, List.set_cons_zero, List.set_cons_succ]
      refine takeL 6 (v := ?_) rfl (by kernel_rfl) (by kernel_rfl) (by kernel_rfl) (fun _ _ _ h => h) (by rfl) (by assumption) ?_ ?_
      rotate_left
      · (intro w hSw; (try dsimp only at hSw); (subst hSw); go_simp <;> with_reducible rfl)
      try simp only [Act.put, List.setIfInBounds_toArray, List.set_cons_zero, List.set_cons_succ]
      refine takeL 7 (v := ?_) rfl (by kernel_rfl) (by kernel_rfl) (by kernel_rfl) (fun _ _ _ h => h) (by rfl) (by assumption) ?_ ?_
      rotate_left
      · (intro w hSw; (try dsimp only at hSw); (subst hSw); go_simp <;> with_reducible rfl)
      try simp only [Act.put, List.setIfInBounds_toArray, List.set_cons_zero, List.set_cons_succ]
      refine takeL 8 (v := ?_) rfl (by kernel_rfl) (by kernel_rfl) (by kernel_rfl) (fun _ _ _ h => h) (by rfl) (by assumption) ?_ ?_
      rotate_left
      · (intro w hSw; (try dsimp only at hSw); (subst hSw); go_simp <;> with_reducible rfl)
      try simp only [Act.put, List.setIfInBounds_toArray, List.set_cons_zero, List.set_cons_succ]
      refine wpAnyH_done (by kernel_rfl) ?_ _
      go_wp2_with fail
      go_roundw
      case rel => exact ⟨k + 1, by omega, by go_num, hB2⟩
      case measure => simp [intOf]; omega
    · obtain rfl : k = n := by omega
      go_wp2_with fail
      go_ret
      exact ⟨rfl, hB⟩

/-- an operation of a size that is looked at -/
def FewO (o : Ox) : Prop := 0 ≤ o.2.1.1 ∧ o.2.1.1 ≤ 200 ∧ 0 ≤ o.2.1.2 ∧ o.2.1.2 ≤ 60 ∧ 0 ≤ o.2.2.2.1 ∧ o.2.2.2.1 ≤ 200 ∧ 0 ≤ o.2.2.2.2.2.1 ∧ o.2.2.2.2.2.1 ≤ 18 ∧ o.2.2.2.1 % 20 = 0
def FewL (l : List Ox) : Prop := (∀ o ∈ l, FewO o) ∧ l.length ≤ 40
/-- a bool is answered; where it is true l is few -/
def FewE (e : Ending) (l : List Ox) : Prop := ∃ t : Bool, e = .returned (.bool t) ∧ (t = true → FewL l)
theorem fewE_f (l : List Ox) : FewE (.returned (.bool false)) l := ⟨false, rfl, fun q => by cases q⟩
theorem fewL_of {l : List Ox} {n : Nat} (hn : l.length = n) (h : ∀ j, j < n → FewO (l.getD j default)) (h2 : n ≤ 40) : FewL l := ⟨fun o ho => by
  obtain ⟨j, hj, rfl⟩ := List.mem_iff_getElem.1 ho
  have := h j (by omega)
  rwa [List.getD_eq_getElem?_getD, List.getElem?_eq_getElem hj] at this, by omega⟩
theorem OL.at {l : List Ox} (h : OL l) {k : Nat} (hk : k < l.length) : OB (l.getD k default) := by
  rw [List.getD_eq_getElem?_getD, List.getElem?_eq_getElem hk]
  exact h.2 _ (List.getElem_mem hk)

attribute [local irreducible] wpList
set_option maxRecDepth 10000 in
set_option maxHeartbeats 4000000 in
theorem few_any (v : Value) (l : List Ox) (w : World) (hl : OL l) (hv : OPL w v l) :
    Calls Try.prog 30 #[v] w fun e w' => FewE e l ∧ Below w.heap.size w w' := by
  obtain ⟨n, hn⟩ : ∃ n, l.length = n := ⟨_, rfl⟩
  obtain ⟨A, cap, rfl, hC⟩ := EL.form hv hn
  have hE := Lib.hid (fun (h : ∀ j, j < n → FewO (l.getD j default)) (h2 : n ≤ 40) => fewL_of hn h h2)
  have hOB := Lib.hid (fun k (hk : k < n) => hl.at (k := k) (by omega))
  have hn9 : n ≤ 9223372036854775807 := by have := hl.1; omega
  replace hC := Lib.hid hC
  clear hl hv hn
  go_enter Try.func30, Try.ntmps30
  go_wp2_with fail
  go_loopw [3] (fun i wr => ∃ k : Nat, k ≤ n ∧ i = .int .i64 k ∧ Hid (∀ j, j < k → FewO (l.getD j default)) ∧ Below w.heap.size w wr) (fun i _ => n + 1 - (intOf i).toNat)
  case atStart => exact ⟨0, Nat.zero_le _, rfl, (fun j hj => by omega), Below.refl _ _⟩
  case round =>
    obtain ⟨k, hk, rfl, hF, hB⟩ := hrel
    by_cases hlt : k < n
    · obtain ⟨g, off, rfl, hcap, _, hg, hcl⟩ := hC.out wr k hB hlt
      have hlt' : (k : Int) < (n : Int) := by omega
      have hob := hOB.out k hlt
      have hF2 := Lib.hid (fun (h : FewO (l.getD k default)) j (hj : j < k + 1) => show FewO (l.getD j default) from by
        by_cases e : j = k
        · subst e; exact h
        · exact hF.out j (by omega))
      generalize l.getD k default = o at *
      obtain ⟨kd, ⟨fr, mn⟩, ⟨a1, a2, a3, a4, a5⟩, at_, a7, sz, a9⟩ := o
      obtain ⟨_, ⟨b1, b2⟩, ⟨b3, b4⟩, _, ⟨b5, b6⟩, _, ⟨b7, b8⟩, _⟩ := hob
      simp only [] at b1 b2 b3 b4 b5 b6 b7 b8
      have c1 : wr.cell? ⟨g, off + k * 12 + 1, none⟩ = some (.int .i64 fr) := hcl 1 (by omega)
      have c2 : wr.cell? ⟨g, off + k * 12 + 1 + 1, none⟩ = some (.int .i64 mn) := hcl 2 (by omega)
      have c8 : wr.cell? ⟨g, off + k * 12 + 3 + 5, none⟩ = some (.int .i64 at_) := hcl 8 (by omega)
      have c10 : wr.cell? ⟨g, off + k * 12 + 3 + 6 + 1, none⟩ = some (.int .i64 sz) := hcl 10 (by omega)
      clear hcl
      obtain ⟨rm, hrm⟩ : ∃ rm : Int, at_.tmod 20 = rm := ⟨_, rfl⟩
      have hB2 := hB.alloc hB.size (.cells #[.int .i64 fr, .int .i64 mn] (63 : Nat))
      by_cases q0 : fr < 0
      · have t0 : decide (fr < 0) = true := decide_eq_true q0
        go_wp2_with fail
        go_ret
        exact ⟨fewE_f l, hB2⟩
      have t0 : decide (fr < 0) = false := decide_eq_false q0
      by_cases q1 : 200 < fr
      · have t1 : decide (200 < fr) = true := decide_eq_true q1
        go_wp2_with fail
        go_ret
        exact ⟨fewE_f l, hB2⟩
      have t1 : decide (200 < fr) = false := decide_eq_false q1
      by_cases q2 : mn < 0
      · have t2 : decide (mn < 0) = true := decide_eq_true q2
        go_wp2_with fail
        go_ret
        exact ⟨fewE_f l, hB2⟩
      have t2 : decide (mn < 0) = false := decide_eq_false q2
      by_cases q3 : 60 < mn
      · have t3 : decide (60 < mn) = true := decide_eq_true q3
        go_wp2_with fail
        go_ret
        exact ⟨fewE_f l, hB2⟩
      have t3 : decide (60 < mn) = false := decide_eq_false q3
      by_cases q4 : at_ < 0
      · have t4 : decide (at_ < 0) = true := decide_eq_true q4
        go_wp2_with fail
        go_ret
        exact ⟨fewE_f l, hB2⟩
      have t4 : decide (at_ < 0) = false := decide_eq_false q4
      by_cases q5 : 200 < at_
      · have t5 : decide (200 < at_) = true := decide_eq_true q5
        go_wp2_with fail
        go_ret
        exact ⟨fewE_f l, hB2⟩
      have t5 : decide (200 < at_) = false := decide_eq_false q5
      by_cases q6 : rm ≠ 0
      · have t6 : (rm != 0) = true := by rw [bne_iff_ne]; exact q6
        go_wp2_with fail
        go_ret
        exact ⟨fewE_f l, hB2⟩
      have t6 : (rm != 0) = false := by simpa using q6
      by_cases q7 : sz < 0
      · have t7 : decide (sz < 0) = true := decide_eq_true q7
        go_wp2_with fail
        go_ret
        exact ⟨fewE_f l, hB2⟩
      have t7 : decide (sz < 0) = false := decide_eq_false q7
      by_cases q8 : 18 < sz
      · have t8 : decide (18 < sz) = true := decide_eq_true q8
        go_wp2_with fail
        go_ret
        exact ⟨fewE_f l, hB2⟩
      have t8 : decide (18 < sz) = false := decide_eq_false q8
      have hF3 := Lib.hid (hF2.out ⟨by simp only []; omega, by simp only []; omega, by simp only []; omega, by simp only []; omega, by simp only []; omega, by simp only []; omega, by simp only []; omega, by simp only []; omega, by simp only []; rw [← Int.tmod_eq_emod_of_nonneg (by omega)]; omega⟩)
      go_wp2_with fail
      go_roundw
      case rel => exact ⟨k + 1, by omega, by go_num, hF3.out, hB2⟩
      case measure => simp [intOf]; omega
    · obtain rfl : k = n := by omega
      have hE2 := Lib.hid (hE.out hF.out)
      go_wp2_with fail
      go_ret
      exact ⟨⟨_, rfl, fun q => hE2.out (by simp at q; omega)⟩, hB⟩

def notedL (W : List Sp) : List Sp := ofL 0 300 W (0, 0) false
set_option maxHeartbeats 1000000 in
theorem refNoted_any (B : Nat) (G : Nat → Prop) (r : Rf) (w : World) (h : RfAt w B G r) (hg : GoodR r) :
    Calls Try.prog 75 #[.pointer (some ⟨B, 0, none⟩), .int .i64 300] w fun e w' => ∃ v, e = .returned v ∧ OwnSp w' w.heap.size v (notedL r.words) ∧ Below w.heap.size w w' := by
  obtain ⟨v2, v3, v4, hR⟩ := h
  have c2 := hR.cells.1.2.2.1
  have hO := of_false 0 300 v2 r.words (0, 0) w (by omega) (by omega) (by omega) hg.words hg.wn (by unfold SB; simp) hR.words.pl
  obtain ⟨m, hm⟩ : ∃ m, r.words.length = m := ⟨_, rfl⟩
  obtain ⟨A2, cap2, rfl, _⟩ := ((ownSp_iff.1 hR.words).el spE_len).form hm
  have hN := Lib.hid (show notedL r.words = ofL 0 300 r.words (0, 0) false from rfl)
  have e1 : ((0 : Int) + ((300 : Nat) : Int)) = 300 := by omega
  rw [e1] at hO
  rw [hN.out]
  generalize ofL 0 300 r.words (0, 0) false = R at *
  clear hR hg hm hN
  go_enter Try.func75, Try.ntmps75
  go_wp2_with (go_at_call 92; refine hO.mono ?_; rintro e w1 ⟨v, rfl, h1, h2⟩)
  go_ret
  exact ⟨_, rfl, h1, h2⟩
end Go.Proofs.Ytcemiclbeocnjaa
