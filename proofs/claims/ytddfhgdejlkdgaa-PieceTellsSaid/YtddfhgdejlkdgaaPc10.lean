/-
  Two lists, one behind the other.
-/
import Derived.Test.YtddfhgdejlkdgaaPc9
import Derived.ChangeSlices
import Derived.Carry
import Derived.Deep.SlicePairs
set_option linter.unusedVariables false
set_option linter.unusedSimpArgs false
namespace Go.Proofs.Ytddfhgdejlkdgaa
open Go.RowKit Go.ChangeShapes Go.WideShapes Go.Deep

theorem appP {w : World} {base : Nat} {v u : Value} {l m : List Sp} (hown : OwnSp w base v l) (ha : PL w u m) (hb : base ≤ w.heap.size) (hsm : l.length ≤ 1000000) (hsm2 : m.length ≤ 1000000) :
    ∃ v' w', (Builtin.append_ #[22, 22] 22 #[v, u]).run Try.prog w = .ok v' w' ∧ OwnSp w' base v' (l ++ m) ∧ Below base w w' := by
  obtain ⟨i0, hi, hz0, hz1, hz2⟩ := info_parts infoSp
  have ht : Try.prog.underlying 22 = some (.slice 24) := Try.underlying22
  obtain ⟨A, cap, rfl, h⟩ := ha
  cases m with
  | nil =>
    refine ⟨v, w, ?_, by simpa using hown, Below.refl _ _⟩
    rcases hown.2 with ⟨rfl, _⟩ | ⟨g, cap', cur, rfl, _, _, hnc, _⟩
    · cases A <;> simp [Builtin.append_, run_underlying ht, sizeOf, typeInfo, hi, Builtin.lenOf, Builtin.firstCells, loadCells, loadCellsFrom, storeCells]
    · cases A <;> simp [Builtin.append_, run_underlying ht, sizeOf, typeInfo, hi, Builtin.lenOf, Builtin.firstCells, hnc, loadCells, loadCellsFrom, storeCells]
  | cons x m =>
    obtain ⟨g, off, rfl, hg, hc, hcell⟩ := h (by simp)
    obtain ⟨v', w', hrun, k1, k2, _, k4⟩ := run_append_own_at (P := Try.prog) w base 22 22 24 i0 (.agg #[.int .i64 0, .int .i64 0]) 2 16 Try.underlying22 hi hz0 hz1 hz2 rfl (by decide) v l.length (spv l) hown ⟨g, off, none⟩ (x :: m).length cap (spv (x :: m)) (spv_len _)
      (fun j u hj => by
        have hj2 : j < (x :: m).length * 2 := by have := spv_len (x :: m); rw [← this]; exact (List.getElem?_eq_some_iff.1 hj).1
        obtain ⟨q0, q1⟩ := spv_at (x :: m) (j / 2) (by omega)
        obtain ⟨c0, c1⟩ := hcell (j / 2) (by omega)
        rcases Nat.mod_two_eq_zero_or_one j with e | e
        · have e2 : j / 2 * 2 = j := by omega
          rw [e2] at q0 c0
          rw [hj] at q0
          cases q0
          rw [add_plain]; exact c0
        · have e2 : j / 2 * 2 + 1 = j := by omega
          rw [e2] at q1
          rw [Nat.add_assoc, e2] at c1
          rw [hj] at q1
          cases q1
          rw [add_plain]; exact c1) (spv_one _) (by unfold maxLen; omega) (by omega) hb
    refine ⟨v', w', hrun, ?_, (Below.refl base w).grown k2 hb (fun j hj => (hown.lt j hj).1)⟩
    unfold OwnSp
    rw [List.length_append, spv_app]
    exact k1
theorem appW {w : World} {base : Nat} {v u : Value} {l m : List Nat} (hown : OwnU w base v l) (ha : KL .u64 w u m) (hb : base ≤ w.heap.size) (hsm : l.length ≤ 1000000) (hsm2 : m.length ≤ 1000000) :
    ∃ v' w', (Builtin.append_ #[34, 34] 34 #[v, u]).run Try.prog w = .ok v' w' ∧ OwnU w' base v' (l ++ m) ∧ Below base w w' := by
  obtain ⟨i0, hi, hz0, hz1, hz2⟩ := info_parts infoU64
  have ht : Try.prog.underlying 34 = some (.slice 43) := Try.underlying34
  obtain ⟨A, cap, rfl, h⟩ := ha
  cases m with
  | nil =>
    refine ⟨v, w, ?_, by simpa using hown, Below.refl _ _⟩
    rcases hown.2 with ⟨rfl, _⟩ | ⟨g, cap', cur, rfl, _, _, hnc, _⟩
    · cases A <;> simp [Builtin.append_, run_underlying ht, sizeOf, typeInfo, hi, Builtin.lenOf, Builtin.firstCells, loadCells, loadCellsFrom, storeCells]
    · cases A <;> simp [Builtin.append_, run_underlying ht, sizeOf, typeInfo, hi, Builtin.lenOf, Builtin.firstCells, hnc, loadCells, loadCellsFrom, storeCells]
  | cons x m =>
    obtain ⟨g, off, rfl, hg, hc, hcell⟩ := h (by simp)
    obtain ⟨v', w', hrun, k1, k2, _, k4⟩ := run_append_own_at (P := Try.prog) w base 34 34 43 i0 (.int .u64 0) 1 8 Try.underlying34 hi hz0 hz1 hz2 rfl (by decide) v l.length _ hown ⟨g, off, none⟩ (x :: m).length cap ((x :: m).map fun x : Nat => Value.int .u64 x) (by simp)
      (fun j u hj => by
        have hj2 : j < (x :: m).length := by have := (List.getElem?_eq_some_iff.1 hj).1; simpa using this
        have c0 := hcell j hj2
        rw [List.getElem?_map, List.getElem?_eq_getElem hj2] at hj
        rw [List.getD_eq_getElem?_getD, List.getElem?_eq_getElem hj2] at c0
        simp only [Option.map_some, Option.some.injEq] at hj
        rw [← hj]
        rw [add_plain]; exact c0) (by intro u hu; obtain ⟨y, _, rfl⟩ := List.mem_map.1 hu; rfl) (by unfold maxLen; omega) (by omega) hb
    refine ⟨v', w', hrun, ?_, (Below.refl base w).grown k2 hb (fun j hj => (World.ownsRow.lt hown j hj).1)⟩
    unfold OwnU
    rw [List.length_append, List.map_append]
    exact k1
theorem joinP {w : World} {u1 u2 : Value} {l m : List Sp} (h1 : PL w u1 l) (h2 : PL w u2 m) (l1 : l.length ≤ 1000) (l2 : m.length ≤ 1000) :
    ∃ v1 w1 v2 w2, (Builtin.append_ #[22, 22] 22 #[.slice (some ⟨w.heap.size, 0, none⟩) 0 0, u1]).run Try.prog (w.alloc (.cells #[] (24 : Nat))) = .ok v1 w1 ∧
      (Builtin.append_ #[22, 22] 22 #[v1, u2]).run Try.prog w1 = .ok v2 w2 ∧ PL w2 v2 (l ++ m) ∧ Below w.heap.size w w2 := by
  have hO : OwnSp (w.alloc (.cells #[] (24 : Nat))) w.heap.size (.slice (some ⟨w.heap.size, 0, none⟩) 0 0) [] := World.ownsRow_lit (base := w.heap.size) (e := 24) (size := 2) w #[] 0 (Nat.le_refl _) (by unfold maxLen; omega) rfl
  have hB : Below w.heap.size w (w.alloc (.cells #[] (24 : Nat))) := (Below.refl _ _).alloc (Nat.le_refl _) _
  obtain ⟨v1, w1, r1, o1, b1⟩ := appP hO (h1.keep hB) hB.size (by simp) (by omega)
  have hB1 := hB.trans b1
  obtain ⟨v2, w2, r2, o2, b2⟩ := appP o1 (h2.keep hB1) hB1.size (by simp; omega) (by omega)
  exact ⟨v1, w1, v2, w2, r1, r2, by simpa using o2.pl, hB1.trans b2⟩
theorem joinW {w : World} {u1 u2 : Value} {l m : List Nat} (h1 : KL .u64 w u1 l) (h2 : KL .u64 w u2 m) (l1 : l.length ≤ 100000) (l2 : m.length ≤ 100000) :
    ∃ v1 w1 v2 w2, (Builtin.append_ #[34, 34] 34 #[.slice (some ⟨w.heap.size, 0, none⟩) 0 0, u1]).run Try.prog (w.alloc (.cells #[] (43 : Nat))) = .ok v1 w1 ∧
      (Builtin.append_ #[34, 34] 34 #[v1, u2]).run Try.prog w1 = .ok v2 w2 ∧ KL .u64 w2 v2 (l ++ m) ∧ Below w.heap.size w w2 := by
  have hO : OwnU (w.alloc (.cells #[] (43 : Nat))) w.heap.size (.slice (some ⟨w.heap.size, 0, none⟩) 0 0) [] := World.ownsRow_lit (base := w.heap.size) (e := 43) (size := 1) w #[] 0 (Nat.le_refl _) (by unfold maxLen; omega) rfl
  have hB : Below w.heap.size w (w.alloc (.cells #[] (43 : Nat))) := (Below.refl _ _).alloc (Nat.le_refl _) _
  obtain ⟨v1, w1, r1, o1, b1⟩ := appW hO (h1.keep hB) hB.size (by simp) (by omega)
  have hB1 := hB.trans b1
  obtain ⟨v2, w2, r2, o2, b2⟩ := appW o1 (h2.keep hB1) hB1.size (by simp; omega) (by omega)
  exact ⟨v1, w1, v2, w2, r1, r2, by simpa using o2.kl, hB1.trans b2⟩

theorem gathL_app (I : List Nat) (l m : List Sp) : gathL I (l ++ m) = gathL I l ++ gathL I m := by
  unfold gathL placesL
  rw [List.flatMap_append, List.map_append]
theorem inter1_sh (a b n c : Int) (x : Sp) : inter1 (n + c) (a, b) x = inter1 n (a - c, b) x := by
  unfold inter1
  simp only []
  rw [show a - (n + c) = a - c - n by omega, show a + b - (n + c) = a - c + b - n by omega]
theorem interL_sh (a b c : Int) : ∀ (l : List Sp) (n : Int), interL (a, b) (n + c) l = interL (a - c, b) n l
  | [], _ => rfl
  | x :: l, n => by
    simp only [interL]
    rw [inter1_sh, show n + c + x.2 = n + x.2 + c by omega, interL_sh a b c l]
theorem interL_lo (s : Sp) : ∀ (l : List Sp) (n : Int), PBs l → n + totS l ≤ s.1 → interL s n l = []
  | [], _, _, _ => rfl
  | x :: l, n, h, hn => by
    have hx := h x (by simp)
    have ht := (placesL_len l (fun y hy => h y (by simp [hy]))).2
    obtain ⟨_, h2, _, _⟩ := hx
    rw [totS_cons] at hn
    simp only [interL]
    rw [interL_lo s l (n + x.2) (fun y hy => h y (by simp [hy])) (by omega)]
    unfold inter1
    rw [if_neg (by omega)]
    rfl
theorem atL_app {l m : List Sp} (hl : PBs l) (hm : PBs m) (k : Int) (hk : 0 ≤ k) : atL (l ++ m) k = if k < totS l then atL l k else atL m (k - totS l) := by
  have ht := (placesL_len m hm).2
  have htl := (placesL_len l hl).2
  have e : interL (k, 1) 0 (l ++ m) = interL (k, 1) 0 l ++ interL (k - totS l, 1) 0 m := by
    rw [interL_app, interL_sh]
  by_cases h : k < totS l
  · rw [if_pos h]
    unfold atL cutL
    rw [totS_app, e]
    simp only []
    rw [if_neg (show ¬ (k < 0 ∨ (1 : Int) < 1) by omega), if_pos (show k + 1 ≤ totS l + totS m by omega), if_pos (show k + 1 ≤ totS l by omega)]
    rw [show interL (k - totS l, 1) 0 m = [] from interL_out _ m 0 hm.np (by simp only []; omega), List.append_nil, if_neg (show ¬ (k < 0 ∨ (1 : Int) < 1) by omega)]
  · rw [if_neg h]
    unfold atL cutL
    rw [totS_app, e]
    simp only []
    rw [if_neg (show ¬ (k < 0 ∨ (1 : Int) < 1) by omega), if_neg (show ¬ (k - totS l < 0 ∨ (1 : Int) < 1) by omega), interL_lo (k, 1) l 0 hl (by simp only []; omega), List.nil_append]
    by_cases q : k + 1 ≤ totS l + totS m
    · rw [if_pos q, if_pos (by omega)]
    · rw [if_neg q, if_neg (by omega)]
end Go.Proofs.Ytddfhgdejlkdgaa
