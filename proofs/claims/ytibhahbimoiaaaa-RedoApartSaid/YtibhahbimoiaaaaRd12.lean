/-
  The laws of package redo: RedoApplies, RedoAgain.
-/
import Derived.Test.YtibhahbimoiaaaaRd11
set_option linter.unusedVariables false
set_option linter.unusedSimpArgs false
namespace Go.Proofs.Ytibhahbimoiaaaa
open Go.RowKit Go.ChangeShapes Go.WideShapes Go.Deep

theorem EL.take {α : Type} [Inhabited α] {sz : Nat} {en : α → List Value} {w : World} {A : Option Addr} {n cap : Nat} {l : List α} (h : EL sz en w (.slice A n cap) l) (t : Nat) (ht : t ≤ l.length) : EL sz en w (.slice A t cap) (l.take t) := by
  obtain ⟨A', cap', hv, h⟩ := h
  cases hv
  refine ⟨A, cap, by rw [List.length_take, Nat.min_eq_left ht], fun hl => ?_⟩
  rw [List.length_take, Nat.min_eq_left ht] at hl
  obtain ⟨g, off, hA, hg, hc, hi⟩ := h (by omega)
  refine ⟨g, off, hA, hg, by rw [List.length_take]; omega, fun i h j hj => ?_⟩
  rw [List.length_take] at h
  rw [hi i (by omega) j hj, List.getD_eq_getElem?_getD, List.getD_eq_getElem?_getD, List.getElem?_take_of_lt (by omega)]
theorem EL.cap {α : Type} [Inhabited α] {sz : Nat} {en : α → List Value} {w : World} {A : Option Addr} {n cap : Nat} {l : List α} (h : EL sz en w (.slice A n cap) l) : l.length = n ∧ l.length ≤ cap ∨ l = [] := by
  obtain ⟨A', cap', hv, h⟩ := h
  cases hv
  by_cases h0 : 0 < l.length
  · obtain ⟨_, _, _, _, hc, _⟩ := h h0
    exact .inl ⟨rfl, hc⟩
  · exact .inr (List.eq_nil_of_length_eq_zero (by omega))

/-! ### bit by bit -/
def actO (o : Ox) (j : Nat) : Option Bool := if o.1 = 0 then some (o.2.2.testBit j) else if o.1 = 1 then (if o.2.2.testBit j then some true else none) else if o.1 = 2 then (if o.2.2.testBit j then none else some false) else none
theorem doN_bit (x : Nat) (o : Ox) (j : Nat) : (doN x o).testBit j = (actO o j).getD (x.testBit j) := by
  unfold doN actO
  by_cases h0 : o.1 = 0
  · simp [h0]
  by_cases h1 : o.1 = 1
  · rw [if_neg h0, if_pos h1, if_neg h0, if_pos h1, Nat.testBit_or]
    cases o.2.2.testBit j <;> simp
  by_cases h2 : o.1 = 2
  · rw [if_neg h0, if_neg h1, if_pos h2, if_neg h0, if_neg h1, if_pos h2, Nat.testBit_and]
    cases o.2.2.testBit j <;> simp
  · simp [h0, h1, h2]
def oneA (o : Ox) (i j : Nat) : Option Bool := if o.2.1 = (i : Int) then actO o j else none
def actL : List Ox → Nat → Nat → Option Bool
  | [], _, _ => none
  | o :: l, i, j => match actL l i j with
    | some b => some b
    | none => oneA o i j
theorem actL_cons (o : Ox) (l : List Ox) (i j : Nat) : actL (o :: l) i j = match actL l i j with
    | some b => some b
    | none => oneA o i j := rfl
theorem apOne_bit (I : List Nat) (o : Ox) (i j : Nat) (hi : i < I.length) : ((apOne I o).getD i 0).testBit j = (oneA o i j).getD ((I.getD i 0).testBit j) := by
  unfold apOne oneA
  by_cases h : 0 ≤ o.2.1 ∧ o.2.1 < (I.length : Int)
  · rw [if_pos h, List.getD_eq_getElem?_getD, List.getElem?_set]
    by_cases e : o.2.1 = (i : Int)
    · have e2 : o.2.1.toNat = i := by omega
      rw [if_pos e, if_pos e2, if_pos (by omega), Option.getD_some, doN_bit, e2]
    · rw [if_neg e, if_neg (by omega), List.getD_eq_getElem?_getD]; rfl
  · rw [if_neg h, if_neg (by omega)]; rfl
theorem applyL_bit : ∀ (l : List Ox) (I : List Nat) (i j : Nat), i < I.length → ((applyL I l).getD i 0).testBit j = (actL l i j).getD ((I.getD i 0).testBit j)
  | [], I, i, j, _ => rfl
  | o :: l, I, i, j, hi => by
    show ((applyL (apOne I o) l).getD i 0).testBit j = _
    rw [applyL_bit l (apOne I o) i j (by rw [apOne_len]; exact hi), apOne_bit I o i j hi]
    rw [actL_cons]
    cases actL l i j <;> rfl
theorem list_bits {I J : List Nat} (hl : I.length = J.length) (h : ∀ i, i < I.length → ∀ j, (I.getD i 0).testBit j = (J.getD i 0).testBit j) : I = J := by
  apply List.ext_getElem hl
  intro i h1 h2
  apply Nat.eq_of_testBit_eq
  intro j
  have := h i h1 j
  rw [List.getD_eq_getElem?_getD, List.getD_eq_getElem?_getD, List.getElem?_eq_getElem h1, List.getElem?_eq_getElem h2] at this
  exact this
theorem actL_none {l : List Ox} {i j : Nat} (h : actL l i j = none) : ∀ o ∈ l, oneA o i j = none := by
  induction l with
  | nil => intro o ho; cases ho
  | cons x l ih =>
    unfold actL at h
    cases hl : actL l i j with
    | some b => rw [hl] at h; cases h
    | none =>
      rw [hl] at h
      intro o ho
      rcases List.mem_cons.1 ho with rfl | ho
      · exact h
      · exact ih hl o ho
theorem actL_all {l : List Ox} {i j : Nat} (h : ∀ o ∈ l, oneA o i j = none) : actL l i j = none := by
  induction l with
  | nil => rfl
  | cons x l ih =>
    unfold actL
    rw [ih (fun o ho => h o (by simp [ho]))]
    exact h x (by simp)
theorem apply_part (I : List Nat) (l m : List Ox) (hm : ∀ o ∈ m, o ∈ l) : applyL (applyL I m) l = applyL I l := by
  apply list_bits (by rw [applyL_len, applyL_len, applyL_len])
  intro i hi j
  rw [applyL_len, applyL_len] at hi
  rw [applyL_bit _ _ _ _ (by rw [applyL_len]; exact hi), applyL_bit _ _ _ _ hi, applyL_bit _ _ _ _ hi]
  cases hl : actL l i j with
  | some b => rfl
  | none => rw [actL_all (fun o ho => actL_none hl o (hm o ho))]; rfl

set_option maxHeartbeats 1000000 in
theorem redoApplies_n1 (v u : Value) (I : List Nat) (l : List Ox) (x : Nat) (k a : Int) (y : Nat) (m : Int) (w : World) (hI : WL I) (hv : KL .u64 w v I) (ho : OVs l) (hll : l.length ≤ 9223372036854775807) (hu : OPL w u l) (hx : x < 18446744073709551616) (hy : y < 18446744073709551616) (h : 40 < I.length) :
    Calls Try.prog 5 #[v, u, .int .u64 (x : Nat), .agg #[.int .i64 k, .int .i64 a, .int .u64 (y : Nat)], .int .i64 m] w fun e w' => e = .returned (.bool true) ∧ Below w.heap.size w w' := by
  obtain ⟨A, cap, rfl, _⟩ := hv.form rfl
  obtain ⟨A2, cap2, rfl, _⟩ := hu.form rfl
  have h1 : (40 : Int) < (I.length : Int) := by omega
  have kk := C3.new w (.int .i64 k) (.int .i64 a) (.int .u64 (y : Nat)) (38 : Nat)
  have hB0 : Below w.heap.size w (w.alloc (.cells #[.int .i64 k, .int .i64 a, .int .u64 (y : Nat)] (38 : Nat))) := (Below.refl _ _).alloc (Nat.le_refl _) _
  clear hv hu
  go_enter Try.func5, Try.ntmps5
  go_wp2_with fail
  refine (awake12 _).mono ?_
  rintro e w1 ⟨rfl, hb1⟩
  have hB1 := hB0.trans (hb1.mono hB0.size)
  go_wp2_with fail
  go_ret
  exact ⟨rfl, hB1⟩

set_option maxHeartbeats 1000000 in
theorem redoApplies_n2 (v u : Value) (I : List Nat) (l : List Ox) (x : Nat) (k a : Int) (y : Nat) (m : Int) (w : World) (hI : WL I) (hv : KL .u64 w v I) (ho : OVs l) (hll : l.length ≤ 9223372036854775807) (hu : OPL w u l) (hx : x < 18446744073709551616) (hy : y < 18446744073709551616) (h : I.length ≤ 40) (h2 : 30 < l.length) :
    Calls Try.prog 5 #[v, u, .int .u64 (x : Nat), .agg #[.int .i64 k, .int .i64 a, .int .u64 (y : Nat)], .int .i64 m] w fun e w' => e = .returned (.bool true) ∧ Below w.heap.size w w' := by
  obtain ⟨A, cap, rfl, _⟩ := hv.form rfl
  obtain ⟨A2, cap2, rfl, _⟩ := hu.form rfl
  have h1 : (I.length : Int) ≤ 40 := by omega
  have h3 : (30 : Int) < (l.length : Int) := by omega
  have kk := C3.new w (.int .i64 k) (.int .i64 a) (.int .u64 (y : Nat)) (38 : Nat)
  have hB0 : Below w.heap.size w (w.alloc (.cells #[.int .i64 k, .int .i64 a, .int .u64 (y : Nat)] (38 : Nat))) := (Below.refl _ _).alloc (Nat.le_refl _) _
  clear hv hu
  go_enter Try.func5, Try.ntmps5
  go_wp2_with fail
  refine (awake12 _).mono ?_
  rintro e w1 ⟨rfl, hb1⟩
  have hB1 := hB0.trans (hb1.mono hB0.size)
  go_wp2_with fail
  go_ret
  exact ⟨rfl, hB1⟩

set_option maxRecDepth 10000 in
set_option maxHeartbeats 4000000 in
theorem redoApplies_yes (v u : Value) (I : List Nat) (l : List Ox) (x : Nat) (k a : Int) (y : Nat) (m : Int) (w : World) (hI : WL I) (hv : KL .u64 w v I) (ho : OVs l) (hll : l.length ≤ 9223372036854775807) (hu : OPL w u l) (hx : x < 18446744073709551616) (hy : y < 18446744073709551616) (h : I.length ≤ 40) (h2 : l.length ≤ 30) :
    Calls Try.prog 5 #[v, u, .int .u64 (x : Nat), .agg #[.int .i64 k, .int .i64 a, .int .u64 (y : Nat)], .int .i64 m] w fun e w' => e = .returned (.bool true) ∧ Below w.heap.size w w' := by
  have hA := Lib.hid (fun w1 (hb : Below w.heap.size w w1) => apply_any v u I l w1 hI (by omega) ho (by omega) (hv.keep hb) (hu.keep hb))
  have hR := Lib.hid (fun w1 (hb : Below w.heap.size w w1) => refApply_any v u I l w1 hI (by omega) ho (by omega) (hv.keep hb) (hu.keep hb))
  have hD := fun w1 => do_any x (k, a, y) w1 hx hy
  have hE := fun w1 => refDo_any x (k, a, y) w1 hx hy
  unfold opV at hD hE
  simp only [] at hD hE
  have hI1 := Lib.hid (fun w1 (hb : Below w.heap.size w w1) => within_any u l m w1 hll (hu.keep hb))
  have hI2 := Lib.hid (fun w1 (hb : Below w.heap.size w w1) => refWithin_any u l m w1 hll (hu.keep hb))
  have hal : (applyL I l).length ≤ 1000 := by rw [applyL_len]; omega
  generalize applyL I l = AP at *
  have hW := fun v u w hv hu => words_any v u AP AP w (by omega) hv hu
  rw [show decide (AP = AP) = true by simp] at hW
  replace hW := Lib.hid hW
  generalize doN x (k, a, y) = d at *
  generalize withinB l m = wb at *
  replace hD := Lib.hid hD
  replace hE := Lib.hid hE
  obtain ⟨A, cap, rfl, _⟩ := hv.form rfl
  obtain ⟨A2, cap2, rfl, _⟩ := hu.form rfl
  have h1 : (I.length : Int) ≤ 40 := by omega
  have h3 : (l.length : Int) ≤ 30 := by omega
  have kk := C3.new w (.int .i64 k) (.int .i64 a) (.int .u64 (y : Nat)) (38 : Nat)
  have hB0 : Below w.heap.size w (w.alloc (.cells #[.int .i64 k, .int .i64 a, .int .u64 (y : Nat)] (38 : Nat))) := (Below.refl _ _).alloc (Nat.le_refl _) _
  clear hv hu hI ho
  go_enter Try.func5, Try.ntmps5
  go_wp2_with fail
  refine (awake12 _).mono ?_
  rintro e w1 ⟨rfl, hb1⟩
  have hB1 := hB0.trans (hb1.mono hB0.size)
  replace kk := kk.keep hb1
  clear hb1 hB0
  obtain ⟨c0, c1, c2⟩ := id kk
  have f1 : ((d : Int) == (d : Int)) = true := by simp
  have f2 : (wb == wb) = true := by simp
  go_wp2_with fail
  refine wp_region_held_drew (S := (fun w' => w'.cell? ⟨w.heap.size, 0, none⟩ = some (.int .i64 k) ∧ w'.cell? ⟨w.heap.size, 1, none⟩ = some (.int .i64 a) ∧ w'.cell? ⟨w.heap.size, 2, none⟩ = some (.int .u64 (y : Nat)) ∧ Below w.heap.size w w')) (by kernel_rfl) ?_ (fun hHeld => ?_)
  · (try dsimp only)
    (first | assumption | (exact ⟨c0, c1, c2, hB1.drew⟩) | ((try go_split_ands); exact ⟨cellK (by assumption) hb, cellK (by assumption) hb, cellK (by assumption) hb, Below.trans (by assumption) (hb.mono (Below.size (by assumption)))⟩))
  refine takeL 0 (v := ?_) rfl (by kernel_rfl) (by kernel_rfl) (by kernel_rfl) (fun _ _ _ h => h) (by rfl) (by assumption) ?_ ?_
  rotate_left
  · (intro w hSw; (try dsimp only at hSw); (try go_split_ands); go_simp <;> with_reducible rfl)
  try simp only [Act.put, List.setIfInBounds_toArray, List.set_cons_zero, List.set_cons_succ]
  refine takeL 1 (v := ?_) rfl (by kernel_rfl) (by kernel_rfl) (by kernel_rfl) (fun _ _ _ h => h) (by rfl) (by assumption) ?_ ?_
  rotate_left
  · (intro w hSw; (try dsimp only at hSw); (try go_split_ands); go_simp <;> with_reducible rfl)
  try simp only [Act.put, List.setIfInBounds_toArray, List.set_cons_zero, List.set_cons_succ]
  refine takeL 2 (v := ?_) rfl (by kernel_rfl) (by kernel_rfl) (by kernel_rfl) (fun _ _ _ h => h) (by rfl) (by assumption) ?_ ?_
  rotate_left
  · (intro w hSw; (try dsimp only at hSw); (try go_split_ands); go_simp <;> with_reducible rfl)
  try simp only [Act.put, List.setIfInBounds_toArray, List.set_cons_zero, List.set_cons_succ]
  refine takeL 3 (v := ?_) rfl (by kernel_rfl) (by kernel_rfl) (by kernel_rfl) (fun _ _ _ h => h) (by rfl) (by assumption) ?_ ?_
  rotate_left
  · (intro w hSw; (try dsimp only at hSw); (try go_split_ands); go_simp <;> with_reducible rfl)
  try simp only [Act.put, List.setIfInBounds_toArray, List.set_cons_zero, List.set_cons_succ]
  refine takeL 5 (v := ?_) rfl (by kernel_rfl) (by kernel_rfl) (by kernel_rfl) (fun _ _ _ h => h) (by rfl) (by assumption) ?_ ?_
  rotate_left
  · (intro w hSw; (try dsimp only at hSw); (try go_split_ands); go_simp <;> with_reducible rfl)
  try simp only [Act.put, List.setIfInBounds_toArray, List.set_cons_zero, List.set_cons_succ]
  refine takeL 6 (v := ?_) rfl (by kernel_rfl) (by kernel_rfl) (by kernel_rfl) (fun _ _ _ h => h) (by rfl) (by assumption) ?_ ?_
  rotate_left
  · (intro w hSw; (try dsimp only at hSw); (try go_split_ands); go_simp <;> with_reducible rfl)
  try simp only [Act.put, List.setIfInBounds_toArray, List.set_cons_zero, List.set_cons_succ]
  refine oneL 4 rfl (by kernel_rfl) (fun K hK => ?_)
  go_simp
  (obtain ⟨_, _, _, hq⟩ := id hHeld; (with_reducible refine (hA.out _ hq).mono ?_); rintro e w8 ⟨va, rfl, hoa, hb⟩; have ka := hoa.kl; clear hoa)
  refine hK.out _ _ ?_ (fun hHeld2 => ?_)
  · (try dsimp only)
    (first | assumption | (exact ⟨c0, c1, c2, hB1.drew⟩) | ((try go_split_ands); exact ⟨cellK (by assumption) hb, cellK (by assumption) hb, cellK (by assumption) hb, Below.trans (by assumption) (hb.mono (Below.size (by assumption)))⟩))
  clear hK K hHeld
  have hHeld := hHeld2
  clear hHeld2
  try simp only [Act.put, List.setIfInBounds_toArray, List.set_cons_zero, List.set_cons_succ]
  refine oneL 7 rfl (by kernel_rfl) (fun K hK => ?_)
  go_simp
  (obtain ⟨_, _, _, hq⟩ := id hHeld; (with_reducible refine (hR.out _ hq).mono ?_); rintro e w8 ⟨vb, rfl, hob, hb⟩; have kb := hob.kl; clear hob; replace ka := ka.keep hb)
  refine hK.out _ _ ?_ (fun hHeld2 => ?_)
  · (try dsimp only)
    (first | assumption | (exact ⟨c0, c1, c2, hB1.drew⟩) | ((try go_split_ands); exact ⟨cellK (by assumption) hb, cellK (by assumption) hb, cellK (by assumption) hb, Below.trans (by assumption) (hb.mono (Below.size (by assumption)))⟩))
  clear hK K hHeld
  have hHeld := hHeld2
  clear hHeld2
  try simp only [Act.put, List.setIfInBounds_toArray, List.set_cons_zero, List.set_cons_succ]
  refine oneL 8 rfl (by kernel_rfl) (fun K hK => ?_)
  go_simp
  ((with_reducible refine (hW.out _ _ _ ka kb).mono ?_); rintro e w8 ⟨rfl, hb⟩; clear ka kb)
  refine hK.out _ _ ?_ (fun hHeld2 => ?_)
  · (try dsimp only)
    (first | assumption | (exact ⟨c0, c1, c2, hB1.drew⟩) | ((try go_split_ands); exact ⟨cellK (by assumption) hb, cellK (by assumption) hb, cellK (by assumption) hb, Below.trans (by assumption) (hb.mono (Below.size (by assumption)))⟩))
  clear hK K hHeld
  have hHeld := hHeld2
  clear hHeld2
  try simp only [Act.put, List.setIfInBounds_toArray, List.set_cons_zero, List.set_cons_succ]
  refine takeL 9 (v := ?_) rfl (by kernel_rfl) (by kernel_rfl) (by kernel_rfl) (fun _ _ _ h => h) (by rfl) (by assumption) ?_ ?_
  rotate_left
  · (intro w hSw; (try dsimp only at hSw); (try go_split_ands); go_simp <;> with_reducible rfl)
  try simp only [Act.put, List.setIfInBounds_toArray, List.set_cons_zero, List.set_cons_succ]
  refine takeL 10 (v := ?_) rfl (by kernel_rfl) (by kernel_rfl) (by kernel_rfl) (fun _ _ _ h => h) (by rfl) (by assumption) ?_ ?_
  rotate_left
  · (intro w hSw; (try dsimp only at hSw); (try go_split_ands); go_simp <;> with_reducible rfl)
  try simp only [Act.put, List.setIfInBounds_toArray, List.set_cons_zero, List.set_cons_succ]
  refine takeL 11 (v := ?_) rfl (by kernel_rfl) (by kernel_rfl) (by kernel_rfl) (fun _ _ _ h => h) (by rfl) (by assumption) ?_ ?_
  rotate_left
  · (intro w hSw; (try dsimp only at hSw); (try go_split_ands); go_simp <;> with_reducible rfl)
  try simp only [Act.put, List.setIfInBounds_toArray, List.set_cons_zero, List.set_cons_succ]
  refine takeL 12 (v := ?_) rfl (by kernel_rfl) (by kernel_rfl) (by kernel_rfl) (fun _ _ _ h => h) (by rfl) (by assumption) ?_ ?_
  rotate_left
  · (intro w hSw; (try dsimp only at hSw); (try go_split_ands); go_simp <;> with_reducible rfl)
  try simp only [Act.put, List.setIfInBounds_toArray, List.set_cons_zero, List.set_cons_succ]
  refine takeL 14 (v := ?_) rfl (by kernel_rfl) (by kernel_rfl) (by kernel_rfl) (fun _ _ _ h => h) (by rfl) (by assumption) ?_ ?_
  rotate_left
  · (intro w hSw; (try dsimp only at hSw); (try go_split_ands); go_simp <;> with_reducible rfl)
  try simp only [Act.put, List.setIfInBounds_toArray, List.set_cons_zero, List.set_cons_succ]
  refine takeL 15 (v := ?_) rfl (by kernel_rfl) (by kernel_rfl) (by kernel_rfl) (fun _ _ _ h => h) (by rfl) (by assumption) ?_ ?_
  rotate_left
  · (intro w hSw; (try dsimp only at hSw); (try go_split_ands); go_simp <;> with_reducible rfl)
  try simp only [Act.put, List.setIfInBounds_toArray, List.set_cons_zero, List.set_cons_succ]
  refine oneL 13 rfl (by kernel_rfl) (fun K hK => ?_)
  go_simp
  ((with_reducible refine (hD.out _).mono ?_); rintro e w8 ⟨rfl, hb⟩)
  refine hK.out _ _ ?_ (fun hHeld2 => ?_)
  · (try dsimp only)
    (first | assumption | (exact ⟨c0, c1, c2, hB1.drew⟩) | ((try go_split_ands); exact ⟨cellK (by assumption) hb, cellK (by assumption) hb, cellK (by assumption) hb, Below.trans (by assumption) (hb.mono (Below.size (by assumption)))⟩))
  clear hK K hHeld
  have hHeld := hHeld2
  clear hHeld2
  try simp only [Act.put, List.setIfInBounds_toArray, List.set_cons_zero, List.set_cons_succ]
  refine oneL 16 rfl (by kernel_rfl) (fun K hK => ?_)
  go_simp
  ((with_reducible refine (hE.out _).mono ?_); rintro e w8 ⟨rfl, hb⟩)
  refine hK.out _ _ ?_ (fun hHeld2 => ?_)
  · (try dsimp only)
    (first | assumption | (exact ⟨c0, c1, c2, hB1.drew⟩) | ((try go_split_ands); exact ⟨cellK (by assumption) hb, cellK (by assumption) hb, cellK (by assumption) hb, Below.trans (by assumption) (hb.mono (Below.size (by assumption)))⟩))
  clear hK K hHeld
  have hHeld := hHeld2
  clear hHeld2
  try simp only [Act.put, List.setIfInBounds_toArray, List.set_cons_zero, List.set_cons_succ]
  refine takeL 17 (v := ?_) rfl (by kernel_rfl) (by kernel_rfl) (by kernel_rfl) (fun _ _ _ h => h) (by rfl) (by assumption) ?_ ?_
  rotate_left
  · (intro w hSw; (try dsimp only at hSw); (try go_split_ands); go_simp <;> with_reducible rfl)
  try simp only [Act.put, List.setIfInBounds_toArray, List.set_cons_zero, List.set_cons_succ]
  refine takeL 18 (v := ?_) rfl (by kernel_rfl) (by kernel_rfl) (by kernel_rfl) (fun _ _ _ h => h) (by rfl) (by assumption) ?_ ?_
  rotate_left
  · (intro w hSw; (try dsimp only at hSw); (try go_split_ands); go_simp <;> with_reducible rfl)
  try simp only [Act.put, List.setIfInBounds_toArray, List.set_cons_zero, List.set_cons_succ]
  refine takeL 19 (v := ?_) rfl (by kernel_rfl) (by kernel_rfl) (by kernel_rfl) (fun _ _ _ h => h) (by rfl) (by assumption) ?_ ?_
  rotate_left
  · (intro w hSw; (try dsimp only at hSw); (try go_split_ands); go_simp <;> with_reducible rfl)
  try simp only [Act.put, List.setIfInBounds_toArray, List.set_cons_zero, List.set_cons_succ]
  refine takeL 20 (v := ?_) rfl (by kernel_rfl) (by kernel_rfl) (by kernel_rfl) (fun _ _ _ h => h) (by rfl) (by assumption) ?_ ?_
  rotate_left
  · (intro w hSw; (try dsimp only at hSw); (try go_split_ands); go_simp <;> with_reducible rfl)
  try simp only [Act.put, List.setIfInBounds_toArray, List.set_cons_zero, List.set_cons_succ]
  refine takeL 21 (v := ?_) rfl (by kernel_rfl) (by kernel_rfl) (by kernel_rfl) (fun _ _ _ h => h) (by rfl) (by assumption) ?_ ?_
  rotate_left
  · (intro w hSw; (try dsimp only at hSw); (try go_split_ands); go_simp <;> with_reducible rfl)
  try simp only [Act.put, List.setIfInBounds_toArray, List.set_cons_zero, List.set_cons_succ]
  refine takeL 23 (v := ?_) rfl (by kernel_rfl) (by kernel_rfl) (by kernel_rfl) (fun _ _ _ h => h) (by rfl) (by assumption) ?_ ?_
  rotate_left
  · (intro w hSw; (try dsimp only at hSw); (try go_split_ands); go_simp <;> with_reducible rfl)
  try simp only [Act.put, List.setIfInBounds_toArray, List.set_cons_zero, List.set_cons_succ]
  refine takeL 24 (v := ?_) rfl (by kernel_rfl) (by kernel_rfl) (by kernel_rfl) (fun _ _ _ h => h) (by rfl) (by assumption) ?_ ?_
  rotate_left
  · (intro w hSw; (try dsimp only at hSw); (try go_split_ands); go_simp <;> with_reducible rfl)
  try simp only [Act.put, List.setIfInBounds_toArray, List.set_cons_zero, List.set_cons_succ]
  refine oneL 22 rfl (by kernel_rfl) (fun K hK => ?_)
  go_simp
  (obtain ⟨_, _, _, hq⟩ := id hHeld; (with_reducible refine (hI1.out _ hq).mono ?_); rintro e w8 ⟨rfl, hb⟩)
  refine hK.out _ _ ?_ (fun hHeld2 => ?_)
  · (try dsimp only)
    (first | assumption | (exact ⟨c0, c1, c2, hB1.drew⟩) | ((try go_split_ands); exact ⟨cellK (by assumption) hb, cellK (by assumption) hb, cellK (by assumption) hb, Below.trans (by assumption) (hb.mono (Below.size (by assumption)))⟩))
  clear hK K hHeld
  have hHeld := hHeld2
  clear hHeld2
  try simp only [Act.put, List.setIfInBounds_toArray, List.set_cons_zero, List.set_cons_succ]
  refine oneL 25 rfl (by kernel_rfl) (fun K hK => ?_)
  go_simp
  (obtain ⟨_, _, _, hq⟩ := id hHeld; (with_reducible refine (hI2.out _ hq).mono ?_); rintro e w8 ⟨rfl, hb⟩)
  refine hK.out _ _ ?_ (fun hHeld2 => ?_)
  · (try dsimp only)
    (first | assumption | (exact ⟨c0, c1, c2, hB1.drew⟩) | ((try go_split_ands); exact ⟨cellK (by assumption) hb, cellK (by assumption) hb, cellK (by assumption) hb, Below.trans (by assumption) (hb.mono (Below.size (by assumption)))⟩))
  clear hK K hHeld
  have hHeld := hHeld2
  clear hHeld2
  try simp only [Act.put, List.setIfInBounds_toArray, List.set_cons_zero, List.set_cons_succ]
  refine takeL 26 (v := ?_) rfl (by kernel_rfl) (by kernel_rfl) (by kernel_rfl) (fun _ _ _ h => h) (by rfl) (by assumption) ?_ ?_
  rotate_left
  · (intro w hSw; (try dsimp only at hSw); (try go_split_ands); go_simp <;> with_reducible rfl)
  try simp only [Act.put, List.setIfInBounds_toArray, List.set_cons_zero, List.set_cons_succ]
  refine takeL 27 (v := ?_) rfl (by kernel_rfl) (by kernel_rfl) (by kernel_rfl) (fun _ _ _ h => h) (by rfl) (by assumption) ?_ ?_
  rotate_left
  · (intro w hSw; (try dsimp only at hSw); (try go_split_ands); go_simp <;> with_reducible rfl)
  try simp only [Act.put, List.setIfInBounds_toArray, List.set_cons_zero, List.set_cons_succ]
  refine takeL 28 (v := ?_) rfl (by kernel_rfl) (by kernel_rfl) (by kernel_rfl) (fun _ _ _ h => h) (by rfl) (by assumption) ?_ ?_
  rotate_left
  · (intro w hSw; (try dsimp only at hSw); (try go_split_ands); go_simp <;> with_reducible rfl)
  try simp only [Act.put, List.setIfInBounds_toArray, List.set_cons_zero, List.set_cons_succ]
  refine wpAnyH_done (by kernel_rfl) ?_ _
  obtain ⟨_, _, _, hB9⟩ := id hHeld
  clear hHeld
  go_wp2_with fail
  go_ret
  exact ⟨rfl, hB9⟩
theorem redoApplies (v u : Value) (I : List Nat) (l : List Ox) (x : Nat) (k a : Int) (y : Nat) (m : Int) (w : World) (hI : WL I) (hv : KL .u64 w v I) (ho : OVs l) (hll : l.length ≤ 9223372036854775807) (hu : OPL w u l) (hx : x < 18446744073709551616) (hy : y < 18446744073709551616) :
    Calls Try.prog 5 #[v, u, .int .u64 (x : Nat), .agg #[.int .i64 k, .int .i64 a, .int .u64 (y : Nat)], .int .i64 m] w fun e w' => e = .returned (.bool true) ∧ Below w.heap.size w w' := by
  by_cases h : 40 < I.length
  · exact redoApplies_n1 v u I l x k a y m w hI hv ho hll hu hx hy h
  by_cases h2 : 30 < l.length
  · exact redoApplies_n2 v u I l x k a y m w hI hv ho hll hu hx hy (by omega) h2
  · exact redoApplies_yes v u I l x k a y m w hI hv ho hll hu hx hy (by omega) (by omega)

set_option maxHeartbeats 1000000 in
theorem redoAgain_n1 (v u : Value) (I : List Nat) (l : List Ox) (pt : Nat) (w : World) (hI : WL I) (hv : KL .u64 w v I) (ho : OVs l) (hu : OPL w u l) (hp : pt < 256) (h : 40 < I.length) :
    Calls Try.prog 7 #[v, u, .int .u8 (pt : Nat)] w fun e w' => e = .returned (.bool true) ∧ Below w.heap.size w w' := by
  obtain ⟨A, cap, rfl, _⟩ := hv.form rfl
  obtain ⟨A2, cap2, rfl, _⟩ := hu.form rfl
  have h1 : (40 : Int) < (I.length : Int) := by omega
  clear hv hu
  go_enter Try.func7, Try.ntmps7
  go_wp2_with fail
  refine (awake12 _).mono ?_
  rintro e w1 ⟨rfl, hb1⟩
  go_wp2_with fail
  go_ret
  exact ⟨rfl, hb1⟩

set_option maxHeartbeats 1000000 in
theorem redoAgain_n2 (v u : Value) (I : List Nat) (l : List Ox) (pt : Nat) (w : World) (hI : WL I) (hv : KL .u64 w v I) (ho : OVs l) (hu : OPL w u l) (hp : pt < 256) (h : I.length ≤ 40) (h2 : 30 < l.length) :
    Calls Try.prog 7 #[v, u, .int .u8 (pt : Nat)] w fun e w' => e = .returned (.bool true) ∧ Below w.heap.size w w' := by
  obtain ⟨A, cap, rfl, _⟩ := hv.form rfl
  obtain ⟨A2, cap2, rfl, _⟩ := hu.form rfl
  have h1 : (I.length : Int) ≤ 40 := by omega
  have h3 : (30 : Int) < (l.length : Int) := by omega
  clear hv hu
  go_enter Try.func7, Try.ntmps7
  go_wp2_with fail
  refine (awake12 _).mono ?_
  rintro e w1 ⟨rfl, hb1⟩
  go_wp2_with fail
  go_ret
  exact ⟨rfl, hb1⟩

set_option maxRecDepth 10000 in
set_option maxHeartbeats 4000000 in
theorem redoAgain_yes (v u : Value) (I : List Nat) (l : List Ox) (pt : Nat) (w : World) (hI : WL I) (hv : KL .u64 w v I) (ho : OVs l) (hu : OPL w u l) (hp : pt < 256) (h : I.length ≤ 40) (h2 : l.length ≤ 30) :
    Calls Try.prog 7 #[v, u, .int .u8 (pt : Nat)] w fun e w' => e = .returned (.bool true) ∧ Below w.heap.size w w' := by
  obtain ⟨n, hn⟩ : ∃ n, l.length = n := ⟨_, rfl⟩
  obtain ⟨p, hp1⟩ : ∃ p, p = pt % (n + 1) := ⟨_, rfl⟩
  have hp2 : p ≤ n := by rw [hp1]; have := Nat.mod_lt pt (show 0 < n + 1 by omega); omega
  have hpi : (pt : Int) % ((n : Int) + 1) = (p : Int) := by rw [hp1, show ((n : Int) + 1) = ((n + 1 : Nat) : Int) by omega, Int.natCast_emod]
  have hcp := hu.form hn
  obtain ⟨A2, cap2, rfl, hC2⟩ := hu.form hn
  have hcap : p ≤ cap2 := by
    by_cases h0 : 0 < n
    · obtain ⟨_, _, _, h, _⟩ := hC2 w 0 (Below.refl _ _) h0
      omega
    · omega
  have hut : OPL w (.slice A2 p cap2) (l.take p) := EL.take hu p (by omega)
  have hA1 := Lib.hid (fun w1 (hb : Below w.heap.size w w1) => apply_any v (.slice A2 n cap2) I l w1 hI (by omega) ho (by omega) (hv.keep hb) (hu.keep hb))
  have hA2 := fun va w1 (hb : Below w.heap.size w w1) hka => apply_any va (.slice A2 n cap2) (applyL I l) l w1 (applyL_WL ho hI) (by rw [applyL_len]; omega) ho (by omega) hka (hu.keep hb)
  have hA3 := Lib.hid (fun w1 (hb : Below w.heap.size w w1) => apply_any v (.slice A2 p cap2) I (l.take p) w1 hI (by omega) (fun o h => ho o (List.mem_of_mem_take h)) (by rw [List.length_take]; omega) (hv.keep hb) (hut.keep hb))
  have hA4 := fun vb w1 (hb : Below w.heap.size w w1) hkb => apply_any vb (.slice A2 n cap2) (applyL I (l.take p)) l w1 (applyL_WL (fun o h => ho o (List.mem_of_mem_take h)) hI) (by rw [applyL_len]; omega) ho (by omega) hkb (hu.keep hb)
  rw [apply_part I l l (fun o h => h)] at hA2
  rw [apply_part I l (l.take p) (fun o h => List.mem_of_mem_take h)] at hA4
  replace hA2 := Lib.hid hA2
  replace hA4 := Lib.hid hA4
  have hal : (applyL I l).length = I.length := applyL_len _ _
  generalize applyL I l = AP at *
  generalize applyL I (l.take p) = BP at *
  have hW := fun v u w hv hu => words_any v u AP AP w (by omega) hv hu
  rw [show decide (AP = AP) = true by simp] at hW
  replace hW := Lib.hid hW
  obtain ⟨NI, hNI⟩ : ∃ n, I.length = n := ⟨_, rfl⟩
  obtain ⟨A, cap, rfl, _⟩ := hv.form hNI
  have h1 : (NI : Int) ≤ 40 := by omega
  have h3 : (n : Int) ≤ 30 := by omega
  have hN2 := hal.trans hNI
  have hsl := fun w => run_slice_to (P := Try.prog) (ty := 22) Try.underlying22 (info_parts infoOp).choose_spec.1 A2 n cap2 p hcap w
  have hB0 := Below.refl w.heap.size w
  have hw1 : IntKind.i64.wrap ((n : Int) + 1) = (n : Int) + 1 := by rw [IntKind.wrap_i64]; omega
  replace hn := Lib.hid hn
  replace hNI := Lib.hid hNI
  replace hal := Lib.hid hal
  replace hp1 := Lib.hid hp1
  replace hpi := Lib.hid hpi
  replace hsl := Lib.hid hsl
  clear hv hu hut hI ho hC2 hcp
  go_enter Try.func7, Try.ntmps7
  go_wp2_with fail
  refine (awake12 _).mono ?_
  rintro e w1 ⟨rfl, hb1⟩
  have hB1 := hB0.trans (hb1.mono hB0.size)
  clear hb1 hB0
  go_wp2_with fail
  refine (hA1.out _ hB1).mono ?_
  rintro e w2 ⟨va, rfl, hoa, hb2⟩
  have hB2 := hB1.trans (hb2.mono hB1.size)
  have ka := hoa.kl
  clear hb2 hB1
  clear hoa
  go_wp2_with fail
  refine (hA2.out _ _ hB2 ka).mono ?_
  rintro e w3 ⟨vb, rfl, hob, hb3⟩
  have hB3 := hB2.trans (hb3.mono hB2.size)
  replace ka := ka.keep hb3
  have kb := hob.kl
  clear hb3 hB2
  clear hob
  have hpi2 := hpi.out
  have hsl2 := hsl.out
  go_wp2_with fail
  refine (hA3.out _ hB3).mono ?_
  rintro e w4 ⟨vc, rfl, hoc, hb4⟩
  have hB4 := hB3.trans (hb4.mono hB3.size)
  replace ka := ka.keep hb4
  replace kb := kb.keep hb4
  have kc := hoc.kl
  clear hb4 hB3
  clear hoc hpi2 hsl2
  go_wp2_with fail
  refine (hA4.out _ _ hB4 kc).mono ?_
  rintro e w5 ⟨vd, rfl, hod, hb5⟩
  have hB5 := hB4.trans (hb5.mono hB4.size)
  replace ka := ka.keep hb5
  replace kb := kb.keep hb5
  replace kc := kc.keep hb5
  have kd := hod.kl
  clear hb5 hB4
  clear hod
  obtain ⟨Aa, ca, rfl, _⟩ := ka.form hN2
  go_wp2_with fail
  refine (hW.out _ _ _ kb ka).mono ?_
  rintro e w6 ⟨rfl, hb6⟩
  have hB6 := hB5.trans (hb6.mono hB5.size)
  replace ka := ka.keep hb6
  replace kb := kb.keep hb6
  replace kc := kc.keep hb6
  replace kd := kd.keep hb6
  clear hb6 hB5
  go_wp2_with fail
  refine (hW.out _ _ _ kd ka).mono ?_
  rintro e w7 ⟨rfl, hb7⟩
  have hB7 := hB6.trans (hb7.mono hB6.size)
  replace ka := ka.keep hb7
  replace kb := kb.keep hb7
  replace kc := kc.keep hb7
  replace kd := kd.keep hb7
  clear hb7 hB6
  go_wp2_with fail
  go_ret
  exact ⟨rfl, hB7⟩
theorem redoAgain (v u : Value) (I : List Nat) (l : List Ox) (pt : Nat) (w : World) (hI : WL I) (hv : KL .u64 w v I) (ho : OVs l) (hu : OPL w u l) (hp : pt < 256) :
    Calls Try.prog 7 #[v, u, .int .u8 (pt : Nat)] w fun e w' => e = .returned (.bool true) ∧ Below w.heap.size w w' := by
  by_cases h : 40 < I.length
  · exact redoAgain_n1 v u I l pt w hI hv ho hu hp h
  by_cases h2 : 30 < l.length
  · exact redoAgain_n2 v u I l pt w hI hv ho hu hp (by omega) h2
  · exact redoAgain_yes v u I l pt w hI hv ho hu hp (by omega) (by omega)
end Go.Proofs.Ytibhahbimoiaaaa
