/-
  Part of the proof of MendTouches.
-/
import Derived.Test.YtkdhdibjbabgfaaGreatDoorVt27
import Derived.Test.YtkdhdibjbabgfaaGreatDoorVt0
set_option maxRecDepth 10000
set_option maxHeartbeats 1000000
set_option linter.unusedVariables false
set_option linter.unusedSimpArgs false
namespace Go.Proofs.YtkdhdibjbabgfaaGreatDoor
open Go.RowKit Go.ChangeShapes Go.WideShapes Go.Deep
theorem do_0 (x v : Nat) (a : Int) (w : World) (hx : x < 18446744073709551616) (hv : v < 18446744073709551616) : Calls Tryz.prog 83 #[.int .u64 (x : Nat), opV (0, a, v)] w fun e w' => e = .returned (.int .u64 (v : Nat)) ∧ Below w.heap.size w w' := by
 unfold opV
 simp only []
 have hO := lh (fun w => op_set x v 0 a w hx hv)
 go_enter Tryz.func83, Tryz.ntmps83
 go_wp2_with fail
 obtain ⟨W, hW⟩ : ∃ W : World, W = (w.alloc (.cells #[.int .i64 0, .int .i64 a, .int .u64 (v : Nat)] (53 : Nat))).alloc (.cells #[.func (.func 110) #[] #[], .func (.func 111) #[] #[], .func (.func 112) #[] #[]] (138 : Nat)) := ⟨_, rfl⟩
 have hBd : Below w.heap.size w W.drew := by
  rw [hW]
  exact (((bZ _ _).alloc (by simp) _)).drew
 have c0 : W.drew.cell? ⟨w.heap.size, 0, none⟩ = some (.int .i64 0) := by rw [hW]; simp [go_sem]
 have c1 : W.drew.cell? ⟨w.heap.size, 1, none⟩ = some (.int .i64 a) := by rw [hW]; simp [go_sem]
 have c2 : W.drew.cell? ⟨w.heap.size, 2, none⟩ = some (.int .u64 (v : Nat)) := by rw [hW]; simp [go_sem]
 have d0 : W.drew.cell? ⟨w.heap.size + 1, 0, none⟩ = some (.func (.func 110) #[] #[]) := by rw [hW]; simp [go_sem]
 rw [← hW]
 clear hW
 go_region_held3 (fun w' => w'.cell? ⟨w.heap.size, 0, none⟩ = some (.int .i64 0) ∧ w'.cell? ⟨w.heap.size, 1, none⟩ = some (.int .i64 a) ∧ w'.cell? ⟨w.heap.size, 2, none⟩ = some (.int .u64 (v : Nat)) ∧ w'.cell? ⟨w.heap.size + 1, 0, none⟩ = some (.func (.func 110) #[] #[]) ∧ Below w.heap.size w w')
  (((try go_split_ands); refine ⟨?_, ?_, ?_, ?_, ?_⟩ <;> first | assumption | (exact cellK (by assumption) hb) | (exact Below.trans (by assumption) (hb.mono (Below.size (by assumption))))))
  (((try go_split_ands); (with_reducible refine (hO.out _).mono ?_); rintro e w8 ⟨rfl, hb⟩))
 go_split_ands
 go_wp2_with fail
 go_ret
 exact ⟨rfl, by assumption⟩
theorem do_1 (x v : Nat) (a : Int) (w : World) (hx : x < 18446744073709551616) (hv : v < 18446744073709551616) : Calls Tryz.prog 83 #[.int .u64 (x : Nat), opV (1, a, v)] w fun e w' => e = .returned (.int .u64 (x ||| v : Nat)) ∧ Below w.heap.size w w' := by
 unfold opV
 simp only []
 have hO := lh (fun w => op_or x v 1 a w hx hv)
 go_enter Tryz.func83, Tryz.ntmps83
 go_wp2_with fail
 obtain ⟨W, hW⟩ : ∃ W : World, W = (w.alloc (.cells #[.int .i64 1, .int .i64 a, .int .u64 (v : Nat)] (53 : Nat))).alloc (.cells #[.func (.func 110) #[] #[], .func (.func 111) #[] #[], .func (.func 112) #[] #[]] (138 : Nat)) := ⟨_, rfl⟩
 have hBd : Below w.heap.size w W.drew := by
  rw [hW]
  exact (((bZ _ _).alloc (by simp) _)).drew
 have c0 : W.drew.cell? ⟨w.heap.size, 0, none⟩ = some (.int .i64 1) := by rw [hW]; simp [go_sem]
 have c1 : W.drew.cell? ⟨w.heap.size, 1, none⟩ = some (.int .i64 a) := by rw [hW]; simp [go_sem]
 have c2 : W.drew.cell? ⟨w.heap.size, 2, none⟩ = some (.int .u64 (v : Nat)) := by rw [hW]; simp [go_sem]
 have d0 : W.drew.cell? ⟨w.heap.size + 1, 1, none⟩ = some (.func (.func 111) #[] #[]) := by rw [hW]; simp [go_sem]
 rw [← hW]
 clear hW
 go_region_held3 (fun w' => w'.cell? ⟨w.heap.size, 0, none⟩ = some (.int .i64 1) ∧ w'.cell? ⟨w.heap.size, 1, none⟩ = some (.int .i64 a) ∧ w'.cell? ⟨w.heap.size, 2, none⟩ = some (.int .u64 (v : Nat)) ∧ w'.cell? ⟨w.heap.size + 1, 1, none⟩ = some (.func (.func 111) #[] #[]) ∧ Below w.heap.size w w')
  (((try go_split_ands); refine ⟨?_, ?_, ?_, ?_, ?_⟩ <;> first | assumption | (exact cellK (by assumption) hb) | (exact Below.trans (by assumption) (hb.mono (Below.size (by assumption))))))
  (((try go_split_ands); (with_reducible refine (hO.out _).mono ?_); rintro e w8 ⟨rfl, hb⟩))
 go_split_ands
 go_wp2_with fail
 go_ret
 exact ⟨rfl, by assumption⟩
theorem do_2 (x v : Nat) (a : Int) (w : World) (hx : x < 18446744073709551616) (hv : v < 18446744073709551616) : Calls Tryz.prog 83 #[.int .u64 (x : Nat), opV (2, a, v)] w fun e w' => e = .returned (.int .u64 (x &&& v : Nat)) ∧ Below w.heap.size w w' := by
 unfold opV
 simp only []
 have hO := lh (fun w => op_and x v 2 a w hx hv)
 go_enter Tryz.func83, Tryz.ntmps83
 go_wp2_with fail
 obtain ⟨W, hW⟩ : ∃ W : World, W = (w.alloc (.cells #[.int .i64 2, .int .i64 a, .int .u64 (v : Nat)] (53 : Nat))).alloc (.cells #[.func (.func 110) #[] #[], .func (.func 111) #[] #[], .func (.func 112) #[] #[]] (138 : Nat)) := ⟨_, rfl⟩
 have hBd : Below w.heap.size w W.drew := by
  rw [hW]
  exact (((bZ _ _).alloc (by simp) _)).drew
 have c0 : W.drew.cell? ⟨w.heap.size, 0, none⟩ = some (.int .i64 2) := by rw [hW]; simp [go_sem]
 have c1 : W.drew.cell? ⟨w.heap.size, 1, none⟩ = some (.int .i64 a) := by rw [hW]; simp [go_sem]
 have c2 : W.drew.cell? ⟨w.heap.size, 2, none⟩ = some (.int .u64 (v : Nat)) := by rw [hW]; simp [go_sem]
 have d0 : W.drew.cell? ⟨w.heap.size + 1, 2, none⟩ = some (.func (.func 112) #[] #[]) := by rw [hW]; simp [go_sem]
 rw [← hW]
 clear hW
 go_region_held3 (fun w' => w'.cell? ⟨w.heap.size, 0, none⟩ = some (.int .i64 2) ∧ w'.cell? ⟨w.heap.size, 1, none⟩ = some (.int .i64 a) ∧ w'.cell? ⟨w.heap.size, 2, none⟩ = some (.int .u64 (v : Nat)) ∧ w'.cell? ⟨w.heap.size + 1, 2, none⟩ = some (.func (.func 112) #[] #[]) ∧ Below w.heap.size w w')
  (((try go_split_ands); refine ⟨?_, ?_, ?_, ?_, ?_⟩ <;> first | assumption | (exact cellK (by assumption) hb) | (exact Below.trans (by assumption) (hb.mono (Below.size (by assumption))))))
  (((try go_split_ands); (with_reducible refine (hO.out _).mono ?_); rintro e w8 ⟨rfl, hb⟩))
 go_split_ands
 go_wp2_with fail
 go_ret
 exact ⟨rfl, by assumption⟩
theorem do_any (x : Nat) (o : Ox) (w : World) (hx : x < 18446744073709551616) (ho : o.2.2 < 18446744073709551616) : Calls Tryz.prog 83 #[.int .u64 (x : Nat), opV o] w fun e w' => e = .returned (.int .u64 (doN x o : Nat)) ∧ Below w.heap.size w w' := by
 by_cases h0 : o.1 = 0
 ·obtain ⟨k, a, v⟩ := o
  simp only [] at h0 ho; subst h0
  have := do_0 x v a w hx ho
  simpa [doN] using this
 by_cases h1 : o.1 = 1
 ·obtain ⟨k, a, v⟩ := o
  simp only [] at h1 ho; subst h1
  have := do_1 x v a w hx ho
  simpa [doN] using this
 by_cases h2 : o.1 = 2
 ·obtain ⟨k, a, v⟩ := o
  simp only [] at h2 ho; subst h2
  have := do_2 x v a w hx ho
  simpa [doN] using this
 ·have := do_easy x o w hx (by omega)
  have e : doN x o = x := by simp [doN, h0, h1, h2]
  rw [e]; exact this
def rightB_rd (l : List Ox) : Bool := decide (l.length ≤ 19) && !(l.any wrongB)
theorem rightB_t {l : List Ox} (h : rightB_rd l = true) : l.length ≤ 19 ∧ ∀ o ∈ l, wrongB o = false := by
 simp only [rightB_rd, Bool.and_eq_true, decide_eq_true_eq, Bool.not_eq_true', List.any_eq_false] at h
 exact ⟨h.1, fun o ho => by simpa using h.2 o ho⟩
end Go.Proofs.YtkdhdibjbabgfaaGreatDoor
