/-
  What an operation does with a word: the code's Do; whether operations are right, and within so many words.
-/
import Derived.Test.YtibhahbimoiaaaaRd2
set_option linter.unusedVariables false
set_option linter.unusedSimpArgs false
namespace Go.Proofs.Ytibhahbimoiaaaa
open Go.RowKit Go.ChangeShapes Go.WideShapes Go.Deep

set_option maxHeartbeats 1000000 in
theorem do_0 (x v : Nat) (a : Int) (w : World) (hx : x < 18446744073709551616) (hv : v < 18446744073709551616) : Calls Try.prog 25 #[.int .u64 (x : Nat), opV (0, a, v)] w fun e w' => e = .returned (.int .u64 (v : Nat)) ∧ Below w.heap.size w w' := by
  unfold opV
  simp only []
  have hO := Lib.hid (fun w => op_set x v 0 a w hx hv)
  go_enter Try.func25, Try.ntmps25
  go_wp2_with fail
  obtain ⟨W, hW⟩ : ∃ W : World, W = (w.alloc (.cells #[.int .i64 0, .int .i64 a, .int .u64 (v : Nat)] (38 : Nat))).alloc (.cells #[.func (.func 50) #[] #[], .func (.func 51) #[] #[], .func (.func 52) #[] #[]] (77 : Nat)) := ⟨_, rfl⟩
  have hBd : Below w.heap.size w W.drew := by
    rw [hW]
    exact ((((Below.refl _ _).alloc (Nat.le_refl _) _).alloc (by simp) _)).drew
  have c0 : W.drew.cell? ⟨w.heap.size, 0, none⟩ = some (.int .i64 0) := by rw [hW]; simp [go_sem]
  have c1 : W.drew.cell? ⟨w.heap.size, 1, none⟩ = some (.int .i64 a) := by rw [hW]; simp [go_sem]
  have c2 : W.drew.cell? ⟨w.heap.size, 2, none⟩ = some (.int .u64 (v : Nat)) := by rw [hW]; simp [go_sem]
  have d0 : W.drew.cell? ⟨w.heap.size + 1, 0, none⟩ = some (.func (.func 50) #[] #[]) := by rw [hW]; simp [go_sem]
  rw [← hW]
  clear hW
  go_region_held3 (fun w' => w'.cell? ⟨w.heap.size, 0, none⟩ = some (.int .i64 0) ∧ w'.cell? ⟨w.heap.size, 1, none⟩ = some (.int .i64 a) ∧ w'.cell? ⟨w.heap.size, 2, none⟩ = some (.int .u64 (v : Nat)) ∧ w'.cell? ⟨w.heap.size + 1, 0, none⟩ = some (.func (.func 50) #[] #[]) ∧ Below w.heap.size w w')
    (((try go_split_ands); refine ⟨?_, ?_, ?_, ?_, ?_⟩ <;> first | assumption | (exact cellK (by assumption) hb) | (exact Below.trans (by assumption) (hb.mono (Below.size (by assumption))))))
    (((try go_split_ands); (with_reducible refine (hO.out _).mono ?_); rintro e w8 ⟨rfl, hb⟩))
  go_split_ands
  go_wp2_with fail
  go_ret
  exact ⟨rfl, by assumption⟩

set_option maxHeartbeats 1000000 in
theorem do_1 (x v : Nat) (a : Int) (w : World) (hx : x < 18446744073709551616) (hv : v < 18446744073709551616) : Calls Try.prog 25 #[.int .u64 (x : Nat), opV (1, a, v)] w fun e w' => e = .returned (.int .u64 (x ||| v : Nat)) ∧ Below w.heap.size w w' := by
  unfold opV
  simp only []
  have hO := Lib.hid (fun w => op_or x v 1 a w hx hv)
  go_enter Try.func25, Try.ntmps25
  go_wp2_with fail
  obtain ⟨W, hW⟩ : ∃ W : World, W = (w.alloc (.cells #[.int .i64 1, .int .i64 a, .int .u64 (v : Nat)] (38 : Nat))).alloc (.cells #[.func (.func 50) #[] #[], .func (.func 51) #[] #[], .func (.func 52) #[] #[]] (77 : Nat)) := ⟨_, rfl⟩
  have hBd : Below w.heap.size w W.drew := by
    rw [hW]
    exact ((((Below.refl _ _).alloc (Nat.le_refl _) _).alloc (by simp) _)).drew
  have c0 : W.drew.cell? ⟨w.heap.size, 0, none⟩ = some (.int .i64 1) := by rw [hW]; simp [go_sem]
  have c1 : W.drew.cell? ⟨w.heap.size, 1, none⟩ = some (.int .i64 a) := by rw [hW]; simp [go_sem]
  have c2 : W.drew.cell? ⟨w.heap.size, 2, none⟩ = some (.int .u64 (v : Nat)) := by rw [hW]; simp [go_sem]
  have d0 : W.drew.cell? ⟨w.heap.size + 1, 1, none⟩ = some (.func (.func 51) #[] #[]) := by rw [hW]; simp [go_sem]
  rw [← hW]
  clear hW
  go_region_held3 (fun w' => w'.cell? ⟨w.heap.size, 0, none⟩ = some (.int .i64 1) ∧ w'.cell? ⟨w.heap.size, 1, none⟩ = some (.int .i64 a) ∧ w'.cell? ⟨w.heap.size, 2, none⟩ = some (.int .u64 (v : Nat)) ∧ w'.cell? ⟨w.heap.size + 1, 1, none⟩ = some (.func (.func 51) #[] #[]) ∧ Below w.heap.size w w')
    (((try go_split_ands); refine ⟨?_, ?_, ?_, ?_, ?_⟩ <;> first | assumption | (exact cellK (by assumption) hb) | (exact Below.trans (by assumption) (hb.mono (Below.size (by assumption))))))
    (((try go_split_ands); (with_reducible refine (hO.out _).mono ?_); rintro e w8 ⟨rfl, hb⟩))
  go_split_ands
  go_wp2_with fail
  go_ret
  exact ⟨rfl, by assumption⟩

set_option maxHeartbeats 1000000 in
theorem do_2 (x v : Nat) (a : Int) (w : World) (hx : x < 18446744073709551616) (hv : v < 18446744073709551616) : Calls Try.prog 25 #[.int .u64 (x : Nat), opV (2, a, v)] w fun e w' => e = .returned (.int .u64 (x &&& v : Nat)) ∧ Below w.heap.size w w' := by
  unfold opV
  simp only []
  have hO := Lib.hid (fun w => op_and x v 2 a w hx hv)
  go_enter Try.func25, Try.ntmps25
  go_wp2_with fail
  obtain ⟨W, hW⟩ : ∃ W : World, W = (w.alloc (.cells #[.int .i64 2, .int .i64 a, .int .u64 (v : Nat)] (38 : Nat))).alloc (.cells #[.func (.func 50) #[] #[], .func (.func 51) #[] #[], .func (.func 52) #[] #[]] (77 : Nat)) := ⟨_, rfl⟩
  have hBd : Below w.heap.size w W.drew := by
    rw [hW]
    exact ((((Below.refl _ _).alloc (Nat.le_refl _) _).alloc (by simp) _)).drew
  have c0 : W.drew.cell? ⟨w.heap.size, 0, none⟩ = some (.int .i64 2) := by rw [hW]; simp [go_sem]
  have c1 : W.drew.cell? ⟨w.heap.size, 1, none⟩ = some (.int .i64 a) := by rw [hW]; simp [go_sem]
  have c2 : W.drew.cell? ⟨w.heap.size, 2, none⟩ = some (.int .u64 (v : Nat)) := by rw [hW]; simp [go_sem]
  have d0 : W.drew.cell? ⟨w.heap.size + 1, 2, none⟩ = some (.func (.func 52) #[] #[]) := by rw [hW]; simp [go_sem]
  rw [← hW]
  clear hW
  go_region_held3 (fun w' => w'.cell? ⟨w.heap.size, 0, none⟩ = some (.int .i64 2) ∧ w'.cell? ⟨w.heap.size, 1, none⟩ = some (.int .i64 a) ∧ w'.cell? ⟨w.heap.size, 2, none⟩ = some (.int .u64 (v : Nat)) ∧ w'.cell? ⟨w.heap.size + 1, 2, none⟩ = some (.func (.func 52) #[] #[]) ∧ Below w.heap.size w w')
    (((try go_split_ands); refine ⟨?_, ?_, ?_, ?_, ?_⟩ <;> first | assumption | (exact cellK (by assumption) hb) | (exact Below.trans (by assumption) (hb.mono (Below.size (by assumption))))))
    (((try go_split_ands); (with_reducible refine (hO.out _).mono ?_); rintro e w8 ⟨rfl, hb⟩))
  go_split_ands
  go_wp2_with fail
  go_ret
  exact ⟨rfl, by assumption⟩

theorem do_any (x : Nat) (o : Ox) (w : World) (hx : x < 18446744073709551616) (ho : o.2.2 < 18446744073709551616) : Calls Try.prog 25 #[.int .u64 (x : Nat), opV o] w fun e w' => e = .returned (.int .u64 (doN x o : Nat)) ∧ Below w.heap.size w w' := by
  by_cases h0 : o.1 = 0
  · obtain ⟨k, a, v⟩ := o
    simp only [] at h0 ho; subst h0
    have := do_0 x v a w hx ho
    simpa [doN] using this
  by_cases h1 : o.1 = 1
  · obtain ⟨k, a, v⟩ := o
    simp only [] at h1 ho; subst h1
    have := do_1 x v a w hx ho
    simpa [doN] using this
  by_cases h2 : o.1 = 2
  · obtain ⟨k, a, v⟩ := o
    simp only [] at h2 ho; subst h2
    have := do_2 x v a w hx ho
    simpa [doN] using this
  · have := do_easy x o w hx (by omega)
    have e : doN x o = x := by simp [doN, h0, h1, h2]
    rw [e]; exact this

set_option maxHeartbeats 1000000 in
theorem index_any (v : Value) (l : List Ox) (w : World) (hlen : l.length ≤ 9223372036854775807) (hv : OPL w v l) :
    Calls Try.prog 57 #[v, .func (.func 45) #[] #[]] w fun e w' => ∃ r : Int, (e = .returned (.int .i64 r) ∧ -1 ≤ r ∧ r ≤ 9223372036854775807 ∧ decide (0 ≤ r) = l.any wrongB) ∧ Below w.heap.size w w' := by
  obtain ⟨n, hn⟩ : ∃ n, l.length = n := ⟨_, rfl⟩
  obtain ⟨A, cap, rfl, hC⟩ := hv.form hn
  have hT := Lib.hid (fun (h : ∀ j, j < n → wrongB (l.getD j default) = false) => show decide ((0 : Int) ≤ -1) = l.any wrongB from by
    rw [show decide ((0 : Int) ≤ -1) = false by decide, Eq.comm, List.any_eq_false]
    intro x hx
    obtain ⟨i, hi, rfl⟩ := List.mem_iff_getElem.1 hx
    have := h i (by omega)
    rw [List.getD_eq_getElem?_getD, List.getElem?_eq_getElem hi] at this
    simp at this; simp [this])
  have hH := Lib.hid (fun k (h : k < n) (hw : wrongB (l.getD k default) = true) => show decide ((0 : Int) ≤ (k : Int)) = l.any wrongB from by
    rw [show decide ((0 : Int) ≤ (k : Int)) = true by simp, Eq.comm, List.any_eq_true]
    refine ⟨l.getD k default, ?_, hw⟩
    rw [List.getD_eq_getElem?_getD, List.getElem?_eq_getElem (by omega)]
    exact List.getElem_mem _)
  replace hC := Lib.hid hC
  have hlen' : n ≤ 9223372036854775807 := by omega
  clear hlen hv
  replace hn := Lib.hid hn
  go_enter Try.func57, Try.ntmps57
  go_wp2_with fail
  go_loopw [8] (fun i wr => ∃ k : Nat, k ≤ n ∧ i = .int .i64 k ∧ Hid (∀ j, j < k → wrongB (l.getD j default) = false) ∧ Below w.heap.size w wr) (fun i _ => n + 1 - (intOf i).toNat)
  case atStart => exact ⟨0, Nat.zero_le _, rfl, (fun j hj => by omega), Below.refl _ _⟩
  case round =>
    obtain ⟨k, hk, rfl, hF, hB⟩ := hrel
    by_cases hlt : k < n
    · obtain ⟨g, off, rfl, hcap, _, hg, c0, c1, c2⟩ := hC.out wr k hB hlt
      have hlt' : (k : Int) < (n : Int) := by omega
      have hH2 := Lib.hid (hH.out k hlt)
      have hF2 := Lib.hid (fun (h : wrongB (l.getD k default) = false) j (hj : j < k + 1) => show wrongB (l.getD j default) = false from by
        by_cases e : j = k
        · subst e; exact h
        · exact hF.out j (by omega))
      generalize l.getD k default = o at *
      have hW := fun w => wrong_any o w
      obtain ⟨x, a, y⟩ := o
      unfold opV at hW
      simp only [] at hW c0 c1 c2
      cases hwr : wrongB (x, a, y) with
      | true =>
        rw [hwr] at hW
        have hR := Lib.hid (hH2.out hwr)
        clear hwr hH2 hF2
        replace hW := Lib.hid hW
        go_wp2_with fail
        refine (hW.out _).mono ?_
        rintro e w2 ⟨rfl, hb⟩
        have hB2 := hB.trans (hb.mono hB.size)
        go_wp2_with fail
        go_ret
        exact ⟨_, ⟨rfl, by omega, by omega, hR.out⟩, hB2⟩
      | false =>
        rw [hwr] at hW
        have hF3 := Lib.hid (hF2.out hwr)
        clear hwr hH2 hF2
        replace hW := Lib.hid hW
        go_wp2_with fail
        refine (hW.out _).mono ?_
        rintro e w2 ⟨rfl, hb⟩
        have hB2 := hB.trans (hb.mono hB.size)
        go_wp2_with fail
        go_roundw
        case rel => exact ⟨k + 1, by omega, by go_num, hF3.out, hB2⟩
        case measure => simp [intOf]; omega
    · have hR := Lib.hid (hT.out (fun j hj => hF.out j (by omega)))
      obtain rfl : k = n := by omega
      go_wp2_with fail
      go_ret
      exact ⟨_, ⟨rfl, by omega, by omega, hR.out⟩, hB⟩
theorem contains_any (v : Value) (l : List Ox) (w : World) (hlen : l.length ≤ 9223372036854775807) (hv : OPL w v l) :
    Calls Try.prog 44 #[v, .func (.func 45) #[] #[]] w fun e w' => e = .returned (.bool (l.any wrongB)) ∧ Below w.heap.size w w' := by
  have hI := Lib.hid (index_any v l w hlen hv)
  clear hv
  go_enter Try.func44, Try.ntmps44
  go_wp2_with fail
  refine hI.out.mono ?_
  rintro e w2 ⟨r, ⟨rfl, hr1, hr2, hr3⟩, hb⟩
  have hr4 := Lib.hid hr3
  clear hr3
  go_wp2_with fail
  go_ret
  exact ⟨by rw [← hr4.out]; rfl, hb⟩
def rightB (l : List Ox) : Bool := decide (l.length ≤ 19) && !(l.any wrongB)
theorem rightB_t {l : List Ox} (h : rightB l = true) : l.length ≤ 19 ∧ ∀ o ∈ l, wrongB o = false := by
  simp only [rightB, Bool.and_eq_true, decide_eq_true_eq, Bool.not_eq_true', List.any_eq_false] at h
  exact ⟨h.1, fun o ho => by simpa using h.2 o ho⟩
theorem right_any (v : Value) (l : List Ox) (w : World) (hlen : l.length ≤ 9223372036854775807) (hv : OPL w v l) :
    Calls Try.prog 18 #[v] w fun e w' => e = .returned (.bool (rightB l)) ∧ Below w.heap.size w w' := by
  have hI := Lib.hid (contains_any v l w hlen hv)
  have hq := Lib.hid (show rightB l = (decide (l.length ≤ 19) && !(l.any wrongB)) from rfl)
  obtain ⟨A, cap, rfl, _⟩ := hv.form rfl
  clear hv
  generalize l.any wrongB = b at *
  by_cases h : l.length ≤ 19
  · have h' : (l.length : Int) ≤ 19 := by omega
    have hq2 := Lib.hid (show rightB l = !b from by rw [hq.out, decide_eq_true h]; simp)
    clear hq
    go_enter Try.func18, Try.ntmps18
    go_wp2_with fail
    refine hI.out.mono ?_
    rintro e w2 ⟨rfl, hb⟩
    go_wp2_with fail
    go_ret
    exact ⟨by rw [hq2.out]; rfl, hb⟩
  · have h' : (19 : Int) < (l.length : Int) := by omega
    have hq2 := Lib.hid (show rightB l = false from by rw [hq.out, decide_eq_false h]; simp)
    clear hq
    have h2 : ¬ ((l.length : Int) ≤ 19) := by omega
    go_enter Try.func18, Try.ntmps18
    go_wp2_with fail
    go_ret
    exact ⟨by rw [hq2.out]; rfl, Below.refl _ _⟩
end Go.Proofs.Ytibhahbimoiaaaa
