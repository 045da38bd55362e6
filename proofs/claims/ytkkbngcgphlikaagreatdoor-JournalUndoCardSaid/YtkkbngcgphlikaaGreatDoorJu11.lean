/-
  Part of the proof of JournalUndo.
-/
import Derived.Test.YtkkbngcgphlikaaGreatDoorJu10
import Derived.Test.YtkkbngcgphlikaaGreatDoorJu6
import Derived.Test.YtkkbngcgphlikaaGreatDoorJu8
import Derived.Test.YtkkbngcgphlikaaGreatDoorJu0
set_option maxRecDepth 10000
set_option maxHeartbeats 2000000
set_option linter.unusedVariables false
set_option linter.unusedSimpArgs false
section
namespace Go.Proofs.YtkkbngcgphlikaaGreatDoor
open Go.RowKit Go.ChangeShapes Go.WideShapes Go.Deep
theorem do_0 (x v : Nat) (a : Int) (w : World) (hx : x < 18446744073709551616) (hv : v < 18446744073709551616) : Calls Tryz.prog 71 #[.int .u64 (x : Nat), opV (0, a, v)] w fun e w' => e = .returned (.int .u64 (v : Nat)) ∧ Below w.heap.size w w' := by
 unfold opV
 simp only []
 have hO := lh (fun w => op_set x v 0 a w hx hv)
 go_enter Tryz.func71, Tryz.ntmps71
 go_wp2_with fail
 obtain ⟨W, hW⟩ : ∃ W : World, W = (w.alloc (.cells #[.int .i64 0, .int .i64 a, .int .u64 (v : Nat)] (107 : Nat))).alloc (.cells #[.func (.func 127) #[] #[], .func (.func 128) #[] #[], .func (.func 129) #[] #[]] (180 : Nat)) := ⟨_, rfl⟩
 have hBd : Below w.heap.size w W.drew := by
  rw [hW]
  exact (((bZ _ _).alloc (by simp) _)).drew
 have c0 : W.drew.cell? ⟨w.heap.size, 0, none⟩ = some (.int .i64 0) := by rw [hW]; simp [go_sem]
 have c1 : W.drew.cell? ⟨w.heap.size, 1, none⟩ = some (.int .i64 a) := by rw [hW]; simp [go_sem]
 have c2 : W.drew.cell? ⟨w.heap.size, 2, none⟩ = some (.int .u64 (v : Nat)) := by rw [hW]; simp [go_sem]
 have d0 : W.drew.cell? ⟨w.heap.size + 1, 0, none⟩ = some (.func (.func 127) #[] #[]) := by rw [hW]; simp [go_sem]
 rw [← hW]
 clear hW
 go_region_held3 (fun w' => w'.cell? ⟨w.heap.size, 0, none⟩ = some (.int .i64 0) ∧ w'.cell? ⟨w.heap.size, 1, none⟩ = some (.int .i64 a) ∧ w'.cell? ⟨w.heap.size, 2, none⟩ = some (.int .u64 (v : Nat)) ∧ w'.cell? ⟨w.heap.size + 1, 0, none⟩ = some (.func (.func 127) #[] #[]) ∧ Below w.heap.size w w')
  (((try go_split_ands); refine ⟨?_, ?_, ?_, ?_, ?_⟩ <;> first | assumption | (exact cellK (by assumption) hb) | (exact Below.trans (by assumption) (hb.mono (Below.size (by assumption))))))
  (((try go_split_ands); (with_reducible refine (hO.out _).mono ?_); rintro e w8 ⟨rfl, hb⟩))
 go_split_ands
 go_wp2_with fail
 go_ret
 exact ⟨rfl, by assumption⟩
theorem do_1 (x v : Nat) (a : Int) (w : World) (hx : x < 18446744073709551616) (hv : v < 18446744073709551616) : Calls Tryz.prog 71 #[.int .u64 (x : Nat), opV (1, a, v)] w fun e w' => e = .returned (.int .u64 (x ||| v : Nat)) ∧ Below w.heap.size w w' := by
 unfold opV
 simp only []
 have hO := lh (fun w => op_or x v 1 a w hx hv)
 go_enter Tryz.func71, Tryz.ntmps71
 go_wp2_with fail
 obtain ⟨W, hW⟩ : ∃ W : World, W = (w.alloc (.cells #[.int .i64 1, .int .i64 a, .int .u64 (v : Nat)] (107 : Nat))).alloc (.cells #[.func (.func 127) #[] #[], .func (.func 128) #[] #[], .func (.func 129) #[] #[]] (180 : Nat)) := ⟨_, rfl⟩
 have hBd : Below w.heap.size w W.drew := by
  rw [hW]
  exact (((bZ _ _).alloc (by simp) _)).drew
 have c0 : W.drew.cell? ⟨w.heap.size, 0, none⟩ = some (.int .i64 1) := by rw [hW]; simp [go_sem]
 have c1 : W.drew.cell? ⟨w.heap.size, 1, none⟩ = some (.int .i64 a) := by rw [hW]; simp [go_sem]
 have c2 : W.drew.cell? ⟨w.heap.size, 2, none⟩ = some (.int .u64 (v : Nat)) := by rw [hW]; simp [go_sem]
 have d0 : W.drew.cell? ⟨w.heap.size + 1, 1, none⟩ = some (.func (.func 128) #[] #[]) := by rw [hW]; simp [go_sem]
 rw [← hW]
 clear hW
 go_region_held3 (fun w' => w'.cell? ⟨w.heap.size, 0, none⟩ = some (.int .i64 1) ∧ w'.cell? ⟨w.heap.size, 1, none⟩ = some (.int .i64 a) ∧ w'.cell? ⟨w.heap.size, 2, none⟩ = some (.int .u64 (v : Nat)) ∧ w'.cell? ⟨w.heap.size + 1, 1, none⟩ = some (.func (.func 128) #[] #[]) ∧ Below w.heap.size w w')
  (((try go_split_ands); refine ⟨?_, ?_, ?_, ?_, ?_⟩ <;> first | assumption | (exact cellK (by assumption) hb) | (exact Below.trans (by assumption) (hb.mono (Below.size (by assumption))))))
  (((try go_split_ands); (with_reducible refine (hO.out _).mono ?_); rintro e w8 ⟨rfl, hb⟩))
 go_split_ands
 go_wp2_with fail
 go_ret
 exact ⟨rfl, by assumption⟩
theorem do_2 (x v : Nat) (a : Int) (w : World) (hx : x < 18446744073709551616) (hv : v < 18446744073709551616) : Calls Tryz.prog 71 #[.int .u64 (x : Nat), opV (2, a, v)] w fun e w' => e = .returned (.int .u64 (x &&& v : Nat)) ∧ Below w.heap.size w w' := by
 unfold opV
 simp only []
 have hO := lh (fun w => op_and x v 2 a w hx hv)
 go_enter Tryz.func71, Tryz.ntmps71
 go_wp2_with fail
 obtain ⟨W, hW⟩ : ∃ W : World, W = (w.alloc (.cells #[.int .i64 2, .int .i64 a, .int .u64 (v : Nat)] (107 : Nat))).alloc (.cells #[.func (.func 127) #[] #[], .func (.func 128) #[] #[], .func (.func 129) #[] #[]] (180 : Nat)) := ⟨_, rfl⟩
 have hBd : Below w.heap.size w W.drew := by
  rw [hW]
  exact (((bZ _ _).alloc (by simp) _)).drew
 have c0 : W.drew.cell? ⟨w.heap.size, 0, none⟩ = some (.int .i64 2) := by rw [hW]; simp [go_sem]
 have c1 : W.drew.cell? ⟨w.heap.size, 1, none⟩ = some (.int .i64 a) := by rw [hW]; simp [go_sem]
 have c2 : W.drew.cell? ⟨w.heap.size, 2, none⟩ = some (.int .u64 (v : Nat)) := by rw [hW]; simp [go_sem]
 have d0 : W.drew.cell? ⟨w.heap.size + 1, 2, none⟩ = some (.func (.func 129) #[] #[]) := by rw [hW]; simp [go_sem]
 rw [← hW]
 clear hW
 go_region_held3 (fun w' => w'.cell? ⟨w.heap.size, 0, none⟩ = some (.int .i64 2) ∧ w'.cell? ⟨w.heap.size, 1, none⟩ = some (.int .i64 a) ∧ w'.cell? ⟨w.heap.size, 2, none⟩ = some (.int .u64 (v : Nat)) ∧ w'.cell? ⟨w.heap.size + 1, 2, none⟩ = some (.func (.func 129) #[] #[]) ∧ Below w.heap.size w w')
  (((try go_split_ands); refine ⟨?_, ?_, ?_, ?_, ?_⟩ <;> first | assumption | (exact cellK (by assumption) hb) | (exact Below.trans (by assumption) (hb.mono (Below.size (by assumption))))))
  (((try go_split_ands); (with_reducible refine (hO.out _).mono ?_); rintro e w8 ⟨rfl, hb⟩))
 go_split_ands
 go_wp2_with fail
 go_ret
 exact ⟨rfl, by assumption⟩
theorem do_any (x : Nat) (o : Ox) (w : World) (hx : x < 18446744073709551616) (ho : o.2.2 < 18446744073709551616) : Calls Tryz.prog 71 #[.int .u64 (x : Nat), opV o] w fun e w' => e = .returned (.int .u64 (doN x o : Nat)) ∧ Below w.heap.size w w' := by
 by_cases h0 : o.1 = 0
 ·obtain ⟨k, a, v⟩ := o
  simp only [] at h0 ho; subst h0
  have := do_0 x v a w hx ho
  simpa [doN] using this
 by_cases h1 : o.1 = 1
 ·obtain ⟨k, a, v⟩ := o
  simp only [] at h1 ho; subst h1
  have := do_1 x v a w hx ho
  simpa [doN] using this
 by_cases h2 : o.1 = 2
 ·obtain ⟨k, a, v⟩ := o
  simp only [] at h2 ho; subst h2
  have := do_2 x v a w hx ho
  simpa [doN] using this
 have := do_easy x o w hx (by omega)
 have e : doN x o = x := by simp [doN, h0, h1, h2]
 rw [e]; exact this
theorem index_any (v : Value) (l : List Ox) (w : World) (hlen : l.length ≤ 9223372036854775807) (hv : OPL w v l) :
 Calls Tryz.prog 183 #[v, .func (.func 155) #[] #[]] w fun e w' => ∃ r : Int, (e = .returned (.int .i64 r) ∧ -1 ≤ r ∧ r ≤ 9223372036854775807 ∧ decide (0 ≤ r) = l.any wrongB) ∧ Below w.heap.size w w' := by
 obtain ⟨n, hn⟩ : ∃ n, l.length = n := ⟨_, rfl⟩
 obtain ⟨A, cap, rfl, hC⟩ := hv.form hn
 have hT := lh (fun (h : ∀ j, j < n → wrongB (l.getD j default) = false) => show decide ((0 : Int) ≤ -1) = l.any wrongB from by
  rw [show decide ((0 : Int) ≤ -1) = false by decide, Eq.comm, List.any_eq_false]
  intro x hx
  obtain ⟨i, hi, rfl⟩ := List.mem_iff_getElem.1 hx
  have := h i (by omega)
  rw [List.getD_eq_getElem?_getD, List.getElem?_eq_getElem hi] at this
  simp at this; simp [this])
 have hH := lh (fun k (h : k < n) (hw : wrongB (l.getD k default) = true) => show decide ((0 : Int) ≤ (k : Int)) = l.any wrongB from by
  rw [show decide ((0 : Int) ≤ (k : Int)) = true by simp, Eq.comm, List.any_eq_true]
  refine ⟨l.getD k default, ?_, hw⟩
  rw [List.getD_eq_getElem?_getD, List.getElem?_eq_getElem (by omega)]
  exact List.getElem_mem _)
 replace hC := lh hC
 have hlen' : n ≤ 9223372036854775807 := by omega
 clear hlen hv
 replace hn := lh hn
 go_enter Tryz.func183, Tryz.ntmps183
 go_wp2_with fail
 go_loopw [8] (fun i wr => ∃ k : Nat, k ≤ n ∧ i = .int .i64 k ∧ Hid (∀ j, j < k → wrongB (l.getD j default) = false) ∧ Below w.heap.size w wr) (fun i _ => n + 1 - (intOf i).toNat)
 case atStart => exact ⟨0, Nat.zero_le _, rfl, (fun j hj => by omega), Below.refl _ _⟩
 obtain ⟨k, hk, rfl, hF, hB⟩ := hrel
 by_cases hlt : k < n
 rotate_left
 ·have hR := lh (hT.out (fun j hj => hF.out j (by omega)))
  obtain rfl : k = n := by omega
  go_wp2_with fail
  go_ret
  exact ⟨_, ⟨rfl, by omega, by omega, hR.out⟩, hB⟩
 obtain ⟨g, off, rfl, hcap, _, hg, c0, c1, c2⟩ := hC.out wr k hB hlt
 have hlt' : (k : Int) < (n : Int) := by omega
 have hH2 := lh (hH.out k hlt)
 have hF2 := lh (fun (h : wrongB (l.getD k default) = false) j (hj : j < k + 1) => show wrongB (l.getD j default) = false from by
  by_cases e : j = k
  ·subst e; exact h
  exact hF.out j (by omega))
 generalize l.getD k default = o at *
 have hW := fun w => wrong_any o w
 obtain ⟨x, a, y⟩ := o
 unfold opV at hW
 simp only [] at hW c0 c1 c2
 cases hwr : wrongB (x, a, y) with
 | true =>
   rw [hwr] at hW
   have hR := lh (hH2.out hwr)
   clear hwr hH2 hF2
   replace hW := lh hW
   go_wp2_with fail
   refine (hW.out _).mono ?_
   rintro e w2 ⟨rfl, hb⟩
   have hB2 := hB.trans (hb.mono hB.size)
   go_wp2_with fail
   go_ret
   exact ⟨_, ⟨rfl, by omega, by omega, hR.out⟩, hB2⟩
 | false =>
   rw [hwr] at hW
   have hF3 := lh (hF2.out hwr)
   clear hwr hH2 hF2
   replace hW := lh hW
   go_wp2_with fail
   refine (hW.out _).mono ?_
   rintro e w2 ⟨rfl, hb⟩
   have hB2 := hB.trans (hb.mono hB.size)
   go_wp2_with fail
   go_roundw
   case rel => exact ⟨k + 1, by omega, by go_num, hF3.out, hB2⟩
   simp [intOf]; omega
theorem contains_any (v : Value) (l : List Ox) (w : World) (hlen : l.length ≤ 9223372036854775807) (hv : OPL w v l) :
 Calls Tryz.prog 154 #[v, .func (.func 155) #[] #[]] w fun e w' => e = .returned (.bool (l.any wrongB)) ∧ Below w.heap.size w w' := by
 have hI := lh (index_any v l w hlen hv)
 clear hv
 go_enter Tryz.func154, Tryz.ntmps154
 go_wp2_with fail
 refine hI.out.mono ?_
 rintro e w2 ⟨r, ⟨rfl, hr1, hr2, hr3⟩, hb⟩
 have hr4 := lh hr3
 clear hr3
 go_wp2_with fail
 go_ret
 exact ⟨by rw [← hr4.out]; rfl, hb⟩
def rightB_rd (l : List Ox) : Bool := decide (l.length ≤ 19) && !(l.any wrongB)
theorem rightB_t {l : List Ox} (h : rightB_rd l = true) : l.length ≤ 19 ∧ ∀ o ∈ l, wrongB o = false := by
 simp only [rightB_rd, Bool.and_eq_true, decide_eq_true_eq, Bool.not_eq_true', List.any_eq_false] at h
 exact ⟨h.1, fun o ho => by simpa using h.2 o ho⟩
theorem right_any (v : Value) (l : List Ox) (w : World) (hlen : l.length ≤ 9223372036854775807) (hv : OPL w v l) :
 Calls Tryz.prog 110 #[v] w fun e w' => e = .returned (.bool (rightB_rd l)) ∧ Below w.heap.size w w' := by
 have hI := lh (contains_any v l w hlen hv)
 have hq := lh (show rightB_rd l = (decide (l.length ≤ 19) && !(l.any wrongB)) from rfl)
 obtain ⟨A, cap, rfl, _⟩ := hv.form rfl
 clear hv
 generalize l.any wrongB = b at *
 by_cases h : l.length ≤ 19
 ·have h' : (l.length : Int) ≤ 19 := by omega
  have hq2 := lh (show rightB_rd l = !b from by rw [hq.out, decide_eq_true h]; simp)
  clear hq
  go_enter Tryz.func110, Tryz.ntmps110
  go_wp2_with fail
  refine hI.out.mono ?_
  rintro e w2 ⟨rfl, hb⟩
  go_wp2_with fail
  go_ret
  exact ⟨by rw [hq2.out]; rfl, hb⟩
 have h' : (19 : Int) < (l.length : Int) := by omega
 have hq2 := lh (show rightB_rd l = false from by rw [hq.out, decide_eq_false h]; simp)
 clear hq
 have h2 : ¬ ((l.length : Int) ≤ 19) := by omega
 go_enter Tryz.func110, Tryz.ntmps110
 go_wp2_with fail
 go_ret
 exact ⟨by rw [hq2.out]; rfl, Below.refl _ _⟩
end Go.Proofs.YtkkbngcgphlikaaGreatDoor
end
section
namespace Go.Proofs.YtkkbngcgphlikaaGreatDoor
open Go.RowKit Go.ChangeShapes Go.WideShapes Go.Deep
def apOne (I : List Nat) (o : Ox) : List Nat := if 0 ≤ o.2.1 ∧ o.2.1 < (I.length : Int) then I.set o.2.1.toNat (doN (I.getD o.2.1.toNat 0) o) else I
def applyL (I : List Nat) (l : List Ox) : List Nat := l.foldl apOne I
theorem apOne_len (I : List Nat) (o : Ox) : (apOne I o).length = I.length := by
 unfold apOne; split
 ·rw [List.length_set]
 rfl
theorem applyL_len (l : List Ox) : ∀ I : List Nat, (applyL I l).length = I.length := by
 unfold applyL
 induction l with
 | nil => intro I; rfl
 | cons o l ih => intro I; rw [List.foldl_cons, ih, apOne_len]
theorem applyL_take (I : List Nat) (l : List Ox) (k : Nat) (h : k < l.length) : applyL I (l.take (k + 1)) = apOne (applyL I (l.take k)) (l.getD k default) := by
 unfold applyL
 rw [List.take_succ_eq_append_getElem h, List.foldl_append, List.getD_eq_getElem?_getD, List.getElem?_eq_getElem h]
 rfl
theorem apOne_WL {I : List Nat} {o : Ox} (h : WL I) (ho : o.2.2 < 18446744073709551616) : WL (apOne I o) := by
 unfold apOne
 split
 ·rename_i q
  intro x hx
  rcases List.mem_or_eq_of_mem_set hx with hx | rfl
  ·exact h x hx
  exact doN_lt (h.at _ (by omega)) ho
 exact h
def OVs (l : List Ox) : Prop := ∀ o ∈ l, o.2.2 < 18446744073709551616
theorem OVs.at {l : List Ox} (h : OVs l) (i : Nat) (hi : i < l.length) : (l.getD i default).2.2 < 18446744073709551616 := by
 rw [List.getD_eq_getElem?_getD, List.getElem?_eq_getElem hi]
 exact h _ (List.getElem_mem hi)
theorem applyL_WL {l : List Ox} (ho : OVs l) : ∀ {I : List Nat}, WL I → WL (applyL I l) := by
 unfold applyL
 induction l with
 | nil => intro I h; exact h
 | cons o l ih => intro I h; rw [List.foldl_cons]; exact ih (fun x hx => ho x (by simp [hx])) (apOne_WL h (ho o (by simp)))
theorem frozK {w w1 : World} {b o : Nat} {v : Value} (h : w.cell? ⟨b, o, none⟩ = some v) (k : w.frozen? ⟨b, o, none⟩ = false) (hb : Below w.heap.size w w1) : w1.frozen? ⟨b, o, none⟩ = false := by
 rw [(bcell hb).2 _ _ (World.block_lt_of_cell? w _ h)]; exact k
theorem apply_any (v u : Value) (I : List Nat) (l : List Ox) (w : World) (hI : WL I) (hlI : I.length ≤ 100000) (ho : OVs l) (hlen : l.length ≤ 100000) (hv : KL .u64 w v I) (hu : OPL w u l) :
 Calls Tryz.prog 64 #[v, u] w fun e w' => ∃ v', e = .returned v' ∧ OwnU w' w.heap.size v' (applyL I l) ∧ Below w.heap.size w w' := by
 obtain ⟨n, hn⟩ : ∃ n, l.length = n := ⟨_, rfl⟩
 obtain ⟨A, cap, rfl, hC⟩ := hu.form hn
 have hS := lh (fun k (hk : k < n) => show applyL I (l.take (k + 1)) = apOne (applyL I (l.take k)) (l.getD k default) from applyL_take I l k (by omega))
 have hE := lh (show applyL I (l.take n) = applyL I l from by rw [List.take_of_length_le (by omega)])
 have hZ := lh (show applyL I (l.take 0) = I from by simp [applyL])
 have hL := lh (fun k => show (applyL I (l.take k)).length = I.length from applyL_len _ _)
 have hWl := lh (fun k => show WL (applyL I (l.take k)) from applyL_WL (fun x hx => ho x (List.mem_of_mem_take hx)) hI)
 have hO := lh (fun k (hk : k < n) => ho.at k (by omega))
 replace hC := lh hC
 have hn9 : n ≤ 100000 := by omega
 replace hn := lh hn
 have hCl := lh (clone_any v I w (by omega) hv)
 clear hv hu hI ho hlen
 go_enter Tryz.func64, Tryz.ntmps64
 go_wp2_with fail
 refine hCl.out.mono ?_
 rintro e w1 ⟨vo, rfl, hown0, hB0⟩
 clear hCl
 obtain ⟨NI, hNI⟩ : ∃ n, I.length = n := ⟨_, rfl⟩
 obtain ⟨Ao, co, rfl, hAo⟩ := hown0.form
 rw [hNI] at hAo hown0 ⊢
 rw [hNI] at hL hlI
 replace hNI := lh hNI
 have hs0 := hB0.size
 go_wp2_with fail
 go_loopw [12] (fun i wr => ∃ (k : Nat) (J : List Nat), k ≤ n ∧ i = .int .i64 k ∧ Hid (J = applyL I (l.take k)) ∧ OwnU wr w.heap.size (.slice Ao NI co) J ∧ Below w.heap.size w wr) (fun i _ => n + 1 - (intOf i).toNat)
 case atStart => exact ⟨0, I, Nat.zero_le _, rfl, lh hZ.out.symm, hown0, hB0⟩
 clear hown0 hB0
 obtain ⟨k, J, hk, rfl, hJ, hown, hB⟩ := hrel
 by_cases hlt : k < n
 rotate_left
 ·have hR : J = applyL I l := by
   have hkn : k = n := by omega
   rw [hJ.out, hkn, hE.out]
  replace hR := lh hR
  obtain rfl : k = n := by omega
  go_wp2_with fail
  go_ret
  exact ⟨_, rfl, by rw [← hR.out]; exact hown, hB⟩
 obtain ⟨g, off, rfl, hcap, hgw, hg, c0, c1, c2⟩ := hC.out wr k hB hlt
 have hlt' : (k : Int) < (n : Int) := by omega
 have hs1 := hS.out k hlt
 have hJl : J.length = NI := by rw [hJ.out]; exact hL.out k
 have hJW : WL J := by rw [hJ.out]; exact hWl.out k
 have hov := hO.out k hlt
 rw [← hJ.out] at hs1
 generalize l.getD k default = o at *
 obtain ⟨x, a, y⟩ := o
 simp only [] at c0 c1 c2 hov
 by_cases q1 : a < 0
 ·have q1' : ¬ (0 ≤ a) := by omega
  have hR := lh (show J = applyL I (l.take (k + 1)) from by rw [hs1, apOne, if_neg (by simp only []; omega)])
  clear hs1 hJW
  go_wp2_with fail
  go_roundw
  case rel => exact ⟨k + 1, J, by omega, by go_num, hR, hown.keep (bZ _ _), hB.alloc hB.size _⟩
  simp [intOf]; omega
 by_cases q2 : (NI : Int) ≤ a
 ·have q1' : 0 ≤ a := by omega
  have q2' : ¬ (a < (NI : Int)) := by omega
  have hR := lh (show J = applyL I (l.take (k + 1)) from by rw [hs1, apOne, if_neg (by simp only []; omega)])
  clear hs1 hJW
  go_wp2_with fail
  go_roundw
  case rel => exact ⟨k + 1, J, by omega, by go_num, hR, hown.keep (bZ _ _), hB.alloc hB.size _⟩
  simp [intOf]; omega
 obtain ⟨i, rfl⟩ := Int.eq_ofNat_of_zero_le (show 0 ≤ a by omega)
 have q3 : i < NI := by omega
 have q3' : (i : Int) < (NI : Int) := by omega
 obtain ⟨go, rfl, hgo1, hgo2⟩ := hAo (by omega)
 have hzl := hJW.at i (by omega)
 have hR := lh (show J.set i (doN (J.getD i 0) (x, (i : Int), y)) = applyL I (l.take (k + 1)) from by rw [hs1, apOne, if_pos (by simp only []; omega)]; simp)
 have hDo := lh (fun w => do_any (J.getD i 0) (x, (i : Int), y) w hzl hov)
 unfold opV at hDo
 simp only [] at hDo
 obtain ⟨e0, f0⟩ := hown.cell hJl q3
 clear hs1 hJW hzl
 generalize J.getD i 0 = z at *
 generalize doN z (x, (i : Int), y) = d at *
 go_wp2_with fail
 obtain ⟨W, hW⟩ : ∃ W : World, W = wr.alloc (.cells #[.int .i64 x, .int .i64 (i : Int), .int .u64 (y : Nat)] (107 : Nat)) := ⟨_, rfl⟩
 have hbA : Below wr.heap.size wr W := by rw [hW]; exact bZ _ _
 have hkW : C3 W wr.heap.size (.int .i64 x) (.int .i64 (i : Int)) (.int .u64 (y : Nat)) := by rw [hW]; exact C3.new _ _ _ _ _
 obtain ⟨b0, b1, b2⟩ := hkW
 rw [← hW]
 clear hW
 have hownW := hown.keep hbA
 have hBW := hB.trans (hbA.mono hB.size)
 have e1 := cellK e0 hbA
 have f1 := frozK e0 f0 hbA
 refine wp_region_tail (S := (fun w' => w'.cell? ⟨wr.heap.size, 0, none⟩ = some (.int .i64 x) ∧ w'.cell? ⟨wr.heap.size, 1, none⟩ = some (.int .i64 (i : Int)) ∧ w'.cell? ⟨wr.heap.size, 2, none⟩ = some (.int .u64 (y : Nat)) ∧ w'.cell? ⟨go, i, none⟩ = some (.int .u64 (z : Nat)) ∧ w'.frozen? ⟨go, i, none⟩ = false ∧ Below W.heap.size W w')) (n := 11) (by kernel_rfl) ?_ (fun hHeld hInv => ?_) (by decide)
 ·(try dsimp only)
  (first | assumption | (exact ⟨b0, b1, b2, e1, f1, (Below.refl _ _).drew⟩) | ((try go_split_ands); exact ⟨cellK (by assumption) hb, cellK (by assumption) hb, cellK (by assumption) hb, cellK (by assumption) hb, frozK (v := .int .u64 (z : Nat)) (by assumption) (by assumption) hb, Below.trans (by assumption) (hb.mono (Below.size (by assumption)))⟩))
 refine takeVS 0 hInv ?_; clear hInv; intro hInv
 refine takeVS 1 hInv ?_; clear hInv; intro hInv
 refine takeVS 2 hInv ?_; clear hInv; intro hInv
 refine takeVS 3 hInv ?_; clear hInv; intro hInv
 refine takeVS 4 hInv ?_; clear hInv; intro hInv
 refine takeVS 5 hInv ?_; clear hInv; intro hInv
 refine takeVS 6 hInv ?_; clear hInv; intro hInv
 refine takeVS 7 hInv ?_; clear hInv; intro hInv
 refine takeVS 8 hInv ?_; clear hInv; intro hInv
 refine oneS 9 hInv (by decide) rfl (by kernel_rfl) (fun K hK => ?_)
 go_simp
 ((with_reducible refine (hDo.out _).mono ?_); rintro e w8 ⟨rfl, hb⟩)
 refine hK.out _ _ ?_ (fun hHeld2 hInv2 => ?_)
 ·(try dsimp only)
  (first | assumption | (exact ⟨b0, b1, b2, e1, f1, (Below.refl _ _).drew⟩) | ((try go_split_ands); exact ⟨cellK (by assumption) hb, cellK (by assumption) hb, cellK (by assumption) hb, cellK (by assumption) hb, frozK (v := .int .u64 (z : Nat)) (by assumption) (by assumption) hb, Below.trans (by assumption) (hb.mono (Below.size (by assumption)))⟩))
 clear hK K hHeld hInv
 have hHeld := hHeld2
 have hInv := hInv2
 clear hHeld2 hInv2
 try simp only [Act.put,sA,sB,sC] at hInv ⊢
 refine takeVS 10 hInv ?_; clear hInv; intro hInv
 refine lastS 11 rfl (by decide) (by kernel_rfl) (fun K hK => ?_)
 obtain ⟨_, _, _, r0, r1, hbL⟩ := id hHeld
 go_simp
 refine hK.out _ _ ?_
 clear hK K
 refine wpAnyS_done (by kernel_rfl) ?_ _
 obtain ⟨_, _, _, r0, r1, hbL⟩ := id hHeld
 have hownN := (hownW.keep hbL).set (y := d) hJl q3
 rw [hR.out] at hownN
 obtain ⟨J2, hJ2⟩ : ∃ J2, J2 = applyL I (l.take (k + 1)) := ⟨_, rfl⟩
 rw [← hJ2] at hownN
 replace hJ2 := lh hJ2
 have hBN : Below w.heap.size w (w8.setCell ⟨go, i, none⟩ (.int .u64 (d : Nat))) := (hBW.trans (hbL.mono hBW.size)).setCell (by simp only []; omega) _
 clear hHeld hInv r0 r1 hown hB hownW hBW hR
 go_wp2_with fail
 go_roundw
 case rel => exact ⟨k + 1, _, by omega, by go_num, hJ2, hownN, hBN⟩
 simp [intOf]; omega
end Go.Proofs.YtkkbngcgphlikaaGreatDoor
end
