/-
  Operations of unlike bits: in either order, or mixed; three lists that grow side by side.
-/
import Derived.Test.YtibhahbimoiaaaaRd12
import Derived.Laws.BitsAllLaws
set_option linter.unusedVariables false
set_option linter.unusedSimpArgs false
namespace Go.Proofs.Ytibhahbimoiaaaa
open Go.RowKit Go.ChangeShapes Go.WideShapes Go.Deep

/-- the opposite of a word -/
theorem not_walk (x : Nat) (h : x < 18446744073709551616) : bits .xor .u64 IntKind.u64.max (x : Int) = ((18446744073709551615 - x : Nat) : Int) := by
  rw [show IntKind.u64.max = ((18446744073709551615 : Nat) : Int) from rfl, u64_xor_nat 18446744073709551615 x (by decide) h]
  congr 1
  apply Nat.eq_of_testBit_eq
  intro i
  rw [Nat.testBit_xor, show 18446744073709551615 = 2 ^ 64 - 1 from rfl, Nat.testBit_two_pow_sub_one, show 2 ^ 64 - 1 - x = 2 ^ 64 - (x + 1) by omega, Nat.testBit_two_pow_sub_succ (by omega)]
  by_cases hi : i < 64
  · simp [hi]
  · have : x.testBit i = false := Nat.testBit_lt_two_pow (Nat.lt_of_lt_of_le h (Nat.pow_le_pow_right (by omega : 2 > 0) (show 64 ≤ i by omega)))
    simp [hi, this]

theorem wrap_pow (q : Nat) (h : q < 64) : IntKind.u64.wrap ((2 : Int) ^ q) = ((2 ^ q : Nat) : Int) := by
  have e : ((2 : Int) ^ q) = ((2 ^ q : Nat) : Int) := by simp
  have h2 : 2 ^ q < 18446744073709551616 := Nat.pow_lt_pow_right (n := 64) (by decide : 1 < 2) h
  rw [e, IntKind.wrap_u64]
  generalize 2 ^ q = Y at h2 ⊢
  omega
theorem actL_snoc (l : List Ox) (o : Ox) (i j : Nat) : actL (l ++ [o]) i j = match oneA o i j with
    | some b => some b
    | none => actL l i j := by
  induction l with
  | nil =>
    show actL [o] i j = _
    rw [actL_cons]
    show (match (none : Option Bool) with | some b => some b | none => oneA o i j) = _
    cases oneA o i j <;> rfl
  | cons x l ih =>
    rw [List.cons_append, actL_cons, ih, actL_cons]
    cases oneA o i j <;> rfl
structure Inv3 (k : Nat) (l m X : List Ox) : Prop where
  low : ∀ i j, j < 64 → j < k → actL X i j = actL l i j ∧ actL m i j = none
  high : ∀ i j, j < 64 → k ≤ j → actL X i j = actL m i j ∧ actL l i j = none
  l1 : OVs l
  m1 : OVs m
  x1 : OVs X
theorem OVs.snoc {l : List Ox} {o : Ox} (h : OVs l) (ho : o.2.2 < 18446744073709551616) : OVs (l ++ [o]) := by
  intro x hx
  rcases List.mem_append.1 hx with hx | hx
  · exact h x hx
  · simp only [List.mem_cons, List.not_mem_nil, or_false] at hx
    rw [hx]; exact ho
theorem Inv3.nil (k : Nat) : Inv3 k [] [] [] := ⟨fun _ _ _ _ => ⟨rfl, rfl⟩, fun _ _ _ _ => ⟨rfl, rfl⟩, (fun x hx => by cases hx), (fun x hx => by cases hx), (fun x hx => by cases hx)⟩
theorem Inv3.addL {k : Nat} {l m X : List Ox} {o : Ox} (h : Inv3 k l m X) (hv : o.2.2 < 18446744073709551616) (ho : ∀ i j, j < 64 → k ≤ j → oneA o i j = none) : Inv3 k (l ++ [o]) m (X ++ [o]) := by
  refine ⟨fun i j h1 h2 => ?_, fun i j h1 h2 => ?_, h.l1.snoc hv, h.m1, h.x1.snoc hv⟩
  · rw [actL_snoc, actL_snoc, (h.low i j h1 h2).1]
    exact ⟨rfl, (h.low i j h1 h2).2⟩
  · rw [actL_snoc, actL_snoc, ho i j h1 h2]
    exact h.high i j h1 h2
theorem Inv3.addM {k : Nat} {l m X : List Ox} {o : Ox} (h : Inv3 k l m X) (hv : o.2.2 < 18446744073709551616) (ho : ∀ i j, j < 64 → j < k → oneA o i j = none) : Inv3 k l (m ++ [o]) (X ++ [o]) := by
  refine ⟨fun i j h1 h2 => ?_, fun i j h1 h2 => ?_, h.l1, h.m1.snoc hv, h.x1.snoc hv⟩
  · rw [actL_snoc, actL_snoc, ho i j h1 h2]
    exact h.low i j h1 h2
  · rw [actL_snoc, actL_snoc, (h.high i j h1 h2).1]
    exact ⟨rfl, (h.high i j h1 h2).2⟩
theorem big_bit {x j : Nat} (h : x < 18446744073709551616) (hj : 64 ≤ j) : x.testBit j = false := Nat.testBit_lt_two_pow (Nat.lt_of_lt_of_le h (Nat.pow_le_pow_right (n := 2) (by decide) hj : 2 ^ 64 ≤ 2 ^ j))
theorem list_bits64 {I J : List Nat} (hI : WL I) (hJ : WL J) (hl : I.length = J.length) (h : ∀ i, i < I.length → ∀ j, j < 64 → (I.getD i 0).testBit j = (J.getD i 0).testBit j) : I = J := by
  refine list_bits hl fun i hi j => ?_
  by_cases hj : j < 64
  · exact h i hi j hj
  · rw [big_bit (hI.at i hi) (by omega), big_bit (hJ.at i (by omega)) (by omega)]
theorem Inv3.lm {k : Nat} {l m X : List Ox} (h : Inv3 k l m X) {I : List Nat} (hI : WL I) : applyL (applyL I l) m = applyL I X := by
  refine list_bits64 (applyL_WL h.m1 (applyL_WL h.l1 hI)) (applyL_WL h.x1 hI) (by rw [applyL_len, applyL_len, applyL_len]) fun i hi j hj => ?_
  rw [applyL_len, applyL_len] at hi
  rw [applyL_bit _ _ _ _ (by rw [applyL_len]; exact hi), applyL_bit _ _ _ _ hi, applyL_bit _ _ _ _ hi]
  by_cases hk : j < k
  · rw [(h.low i j hj hk).1, (h.low i j hj hk).2]; rfl
  · rw [(h.high i j hj (by omega)).1, (h.high i j hj (by omega)).2]; rfl
theorem Inv3.ml {k : Nat} {l m X : List Ox} (h : Inv3 k l m X) {I : List Nat} (hI : WL I) : applyL (applyL I m) l = applyL I X := by
  refine list_bits64 (applyL_WL h.l1 (applyL_WL h.m1 hI)) (applyL_WL h.x1 hI) (by rw [applyL_len, applyL_len, applyL_len]) fun i hi j hj => ?_
  rw [applyL_len, applyL_len] at hi
  rw [applyL_bit _ _ _ _ (by rw [applyL_len]; exact hi), applyL_bit _ _ _ _ hi, applyL_bit _ _ _ _ hi]
  by_cases hk : j < k
  · rw [(h.low i j hj hk).1, (h.low i j hj hk).2]; rfl
  · rw [(h.high i j hj (by omega)).1, (h.high i j hj (by omega)).2]; rfl
theorem one_or (p : Int) {q i j : Nat} (h : j ≠ q) : oneA (1, p, 2 ^ q) i j = none := by
  unfold oneA actO
  simp only []
  split
  · rw [if_neg (by decide), if_pos trivial, Nat.testBit_two_pow, decide_eq_false (by omega)]
    rfl
  · rfl
theorem one_and (p : Int) {q i j : Nat} (hq : q < 64) (hj : j < 64) (h : j ≠ q) : oneA (2, p, 18446744073709551615 - 2 ^ q) i j = none := by
  have hb : (18446744073709551615 - 2 ^ q).testBit j = true := by
    have e : 18446744073709551615 - 2 ^ q = 2 ^ 64 - (2 ^ q + 1) := by omega
    rw [e, Nat.testBit_two_pow_sub_succ (Nat.pow_lt_pow_right (by decide) hq), Nat.testBit_two_pow, decide_eq_false (by omega : ¬ q = j), decide_eq_true hj]
    rfl
  unfold oneA actO
  simp only [hb]
  split
  · rfl
  · rfl

/-! ### three lists side by side -/
def Apt (v u : Value) : Prop := v.ownBlock = none ∨ v.ownBlock ≠ u.ownBlock
theorem Apt.symm {v u : Value} (h : Apt v u) : Apt u v := by
  rcases h with h | h
  · cases hu : u.ownBlock with
    | none => exact .inl hu
    | some b => exact .inr (by rw [h, hu]; simp)
  · exact .inr (Ne.symm h)
structure T3 (w : World) (base : Nat) (v1 : Value) (l1 : List Ox) (v2 : Value) (l2 : List Ox) (v3 : Value) (l3 : List Ox) : Prop where
  o1 : OwnE 38 3 opE w base v1 l1
  o2 : OwnE 38 3 opE w base v2 l2
  o3 : OwnE 38 3 opE w base v3 l3
  a12 : Apt v1 v2
  a13 : Apt v1 v3
  a23 : Apt v2 v3
theorem T3.nil (w : World) (base : Nat) : T3 w base (.slice none 0 0) [] (.slice none 0 0) [] (.slice none 0 0) [] := ⟨OwnE.nil _ _ _ _ _, OwnE.nil _ _ _ _ _, OwnE.nil _ _ _ _ _, .inl rfl, .inl rfl, .inl rfl⟩
theorem T3.keep {w w1 : World} {base : Nat} {v1 v2 v3 : Value} {l1 l2 l3 : List Ox} (h : T3 w base v1 l1 v2 l2 v3 l3) (hb : Below w.heap.size w w1) : T3 w1 base v1 l1 v2 l2 v3 l3 := ⟨h.o1.keep hb, h.o2.keep hb, h.o3.keep hb, h.a12, h.a13, h.a23⟩
theorem T3.rot {w : World} {base : Nat} {v1 v2 v3 : Value} {l1 l2 l3 : List Ox} (h : T3 w base v1 l1 v2 l2 v3 l3) : T3 w base v2 l2 v3 l3 v1 l1 := ⟨h.o2, h.o3, h.o1, h.a23, h.a12.symm, h.a13.symm⟩
theorem Apt.turned {v v' u : Value} {b : Nat} (h : Apt v u) (hv : v'.ownBlock = v.ownBlock ∨ v'.ownBlock = some b) (hu : ∀ g, u.ownBlock = some g → g < b) : Apt v' u := by
  rcases hv with e | e
  · unfold Apt; rw [e]; exact h
  · refine .inr ?_
    rw [e]
    intro q
    exact absurd (hu b q.symm) (by omega)
theorem T3.push {w : World} {base : Nat} {v1 v2 v3 : Value} {l1 l2 l3 : List Ox} (h : T3 w base v1 l1 v2 l2 v3 l3) (hb : base ≤ w.heap.size) (k a : Int) (y : Nat) (hl : l1.length ≤ 1000) :
    ∃ v' w', (Builtin.append_ #[22, 22] 22 #[v1, .slice (some ⟨w.heap.size, 0, none⟩) 1 1]).run Try.prog (w.alloc (.cells #[.int .i64 k, .int .i64 a, .int .u64 (y : Nat)] (38 : Nat))) = .ok v' w' ∧
      T3 w' base v' (l1 ++ [(k, a, y)]) v2 l2 v3 l3 ∧ Below base w w' ∧ ∀ B x y z, C3 w B x y z → some B ≠ v1.ownBlock → C3 w' B x y z := by
  have hone : EL 3 opE (w.alloc (.cells #[.int .i64 k, .int .i64 a, .int .u64 (y : Nat)] (38 : Nat))) (.slice (some ⟨w.heap.size, 0, none⟩) 1 1) [(k, a, y)] := (OwnE.lit 38 opE_len w [(k, a, y)] #[.int .i64 k, .int .i64 a, .int .u64 (y : Nat)] rfl (by simp)).el opE_len
  have hbA : Below w.heap.size w (w.alloc (.cells #[.int .i64 k, .int .i64 a, .int .u64 (y : Nat)] (38 : Nat))) := (Below.refl _ _).alloc (Nat.le_refl _) _
  have hA := h.keep hbA
  have hsz := hbA.size
  generalize (w.alloc (.cells #[.int .i64 k, .int .i64 a, .int .u64 (y : Nat)] (38 : Nat))) = W at *
  obtain ⟨v', w', hrun, ho, hg, hn, _⟩ := appE opT hA.o1 hone (by omega) (by omega) (by simp)
  refine ⟨v', w', hrun, ⟨ho, hA.o2.kept hg hA.a12.symm, hA.o3.kept hg hA.a13.symm, hA.a12.turned hn (fun g e => (hA.o2.lt g e).2), hA.a13.turned hn (fun g e => (hA.o3.lt g e).2), h.a23⟩, ?_, fun B x y z hc hne => ?_⟩
  · exact (hbA.mono hb).grown hg (by omega) (fun j hj => (hA.o1.lt j hj).1)
  · have hc1 := hc.keep hbA
    exact ⟨hg.cell hc1.1 hne, hg.cell hc1.2.1 hne, hg.cell hc1.2.2 hne⟩
theorem T3.fresh {w : World} {base B : Nat} {v1 v2 v3 : Value} {l1 l2 l3 : List Ox} (h : T3 w base v1 l1 v2 l2 v3 l3) (hB : w.heap.size ≤ B) : some B ≠ v1.ownBlock := fun e => by have := (h.o1.lt B e.symm).2; omega
end Go.Proofs.Ytibhahbimoiaaaa
