/-
  Package tile: its mathematics: words of chunks, tails, live blocks, rows.
-/
import Derived.Handy
set_option linter.unusedVariables false
set_option linter.unusedSimpArgs false
namespace Go.Proofs.YtnjifmecaeagaaaDoor
def kN (x : Nat) : Nat := x % 8
def cN (x : Nat) : Nat := x / 8 % 4
def lnN (x : Nat) : Nat := x / 32 % 64
def mN (x : Nat) : Nat := x / 2048 % 8192
def bN (x : Nat) : Nat := x / 16777216 % 256
def RightN (x : Nat) : Prop := x < 4294967296 ∧ (((kN x = 0 ∨ kN x = 3) ∧ cN x = 0 ∧ lnN x = 0 ∧ mN x = 0 ∧ bN x = 0) ∨
  (kN x = 1 ∧ lnN x = 0 ∧ mN x = 0 ∧ ((cN x = 0 ∧ bN x < 256) ∨ (cN x = 1 ∧ bN x < 16) ∨ (cN x = 2 ∧ bN x < 4))) ∨
  (kN x = 2 ∧ cN x = 0 ∧ lnN x = 0 ∧ bN x = 0 ∧ 1 ≤ mN x ∧ mN x ≤ 8191) ∨ (kN x = 4 ∧ cN x = 0 ∧ bN x = 0 ∧ lnN x < 64 ∧ mN x ≤ 7))
instance (x : Nat) : Decidable (RightN x) := by unfold RightN; infer_instance
def okN (x : Nat) : Bool := decide (RightN x)
theorem okN_t {x : Nat} (h : okN x = true) : RightN x := of_decide_eq_true h
theorem parts_bd (x : Nat) : kN x < 8 ∧ cN x < 4 ∧ lnN x < 64 ∧ mN x < 8192 ∧ bN x < 256 := by
  unfold kN cN lnN mN bN; omega

/-- how many tails are still wanted -/
def stepT (x n : Nat) : Option Nat := if decide (kN x = 3) = decide (0 < n) then some (if kN x = 3 then n - 1 else if kN x = 2 then mN x - 1 else n) else none
def runT (t : List Nat) : Nat → Option Nat
  | 0 => some 0
  | k + 1 => (runT t k).bind (stepT (t.getD k 0))
def rightT (t : List Nat) : Bool := t.all okN && (runT t t.length == some 0)
theorem runT_none {t : List Nat} {k : Nat} (h : runT t k = none) : ∀ j, k ≤ j → runT t j = none := by
  intro j hj
  induction j with
  | zero => obtain rfl : k = 0 := by omega
            exact h
  | succ j ih =>
    by_cases e : k = j + 1
    · subst e; exact h
    · have := ih (by omega)
      simp only [runT, this, Option.bind_none]
theorem all_at {t : List Nat} (h : t.all okN = true) {k : Nat} (hk : k < t.length) : okN (t.getD k 0) = true := by
  rw [List.getD_eq_getElem?_getD, List.getElem?_eq_getElem hk]
  exact List.all_eq_true.1 h _ (List.getElem_mem hk)
theorem runT_app (t u : List Nat) : ∀ k, k ≤ t.length → runT (t ++ u) k = runT t k
  | 0, _ => rfl
  | k + 1, hk => by
    simp only [runT]
    rw [runT_app t u k (by omega)]
    congr 2
    simp only [List.getD_eq_getElem?_getD]
    rw [List.getElem?_append_left (by omega)]
theorem runT_app2 (t u : List Nat) (h : runT t t.length = some 0) : ∀ j, runT (t ++ u) (t.length + j) = runT u j
  | 0 => by rw [Nat.add_zero, runT_app t u _ (Nat.le_refl _), h]; rfl
  | j + 1 => by
    rw [← Nat.add_assoc]
    simp only [runT]
    rw [runT_app2 t u h j]
    congr 2
    simp only [List.getD_eq_getElem?_getD]
    rw [List.getElem?_append_right (by omega)]
    congr 2
    omega
theorem rightT_t {t : List Nat} (h : rightT t = true) : t.all okN = true ∧ runT t t.length = some 0 := by
  simp only [rightT, Bool.and_eq_true, beq_iff_eq] at h; exact h
theorem rightT_mk {t : List Nat} (h1 : t.all okN = true) (h2 : runT t t.length = some 0) : rightT t = true := by
  simp only [rightT, Bool.and_eq_true, beq_iff_eq]; exact ⟨h1, h2⟩
theorem rightT_app {t u : List Nat} (h1 : rightT t = true) (h2 : rightT u = true) : rightT (t ++ u) = true := by
  obtain ⟨a1, b1⟩ := rightT_t h1
  obtain ⟨a2, b2⟩ := rightT_t h2
  refine rightT_mk (by rw [List.all_append, a1, a2]; rfl) ?_
  rw [List.length_append, runT_app2 t u b1, b2]
theorem rightT_nil : rightT [] = true := rfl
theorem rightT_one {x : Nat} (h : okN x = true) (h2 : ¬ kN x = 2) (h3 : ¬ kN x = 3) : rightT [x] = true := by
  refine rightT_mk (by simp [h]) ?_
  simp [runT, stepT, h2, h3]
theorem runT_huge (x n : Nat) (hk : kN x = 2) (hm : mN x = n + 1) : ∀ j, j ≤ n → runT (x :: List.replicate n 3) (j + 1) = some (n - j)
  | 0, _ => by simp [runT, stepT, hk, hm]
  | j + 1, hj => by
    rw [runT, runT_huge x n hk hm j (by omega)]
    have e : (x :: List.replicate n 3).getD (j + 1) 0 = 3 := by
      simp only [List.getD_eq_getElem?_getD, List.getElem?_cons_succ]
      rw [List.getElem?_replicate, if_pos (by omega)]
      rfl
    rw [e]
    have : kN 3 = 3 := rfl
    simp only [Option.bind_some, stepT, this]
    have h0 : 0 < n - j := by omega
    simp [h0]
    omega
theorem rightT_huge {x n : Nat} (h : okN x = true) (hk : kN x = 2) (hm : mN x = n + 1) : rightT (x :: List.replicate n 3) = true := by
  refine rightT_mk ?_ ?_
  · rw [List.all_eq_true]
    intro y hy
    rcases List.mem_cons.1 hy with rfl | hy
    · exact h
    · have := List.eq_of_mem_replicate hy
      subst this
      decide
  · have := runT_huge x n hk hm n (Nat.le_refl _)
    rw [List.length_cons, List.length_replicate, this, Nat.sub_self]

/-- is a chunk a tail of some huge one -/
def tailB (t : List Nat) (n i : Nat) : Bool := (List.range n).any fun k => decide (kN (t.getD k 0) = 2) && decide (i < k + mN (t.getD k 0))
theorem tailB_succ (t : List Nat) (n i : Nat) : tailB t (n + 1) i = (tailB t n i || (decide (kN (t.getD n 0) = 2) && decide (i < n + mN (t.getD n 0)))) := by
  simp [tailB, List.range_succ, List.any_append]
def refRightN (t : List Nat) (n : Nat) : Bool := (List.range n).all fun i => (tailB t i i == decide (kN (t.getD i 0) = 3)) && !(decide (kN (t.getD i 0) = 2) && decide (t.length < i + mN (t.getD i 0)))
def refRightB (t : List Nat) : Bool := t.all okN && refRightN t t.length
theorem refRightN_succ (t : List Nat) (n : Nat) : refRightN t (n + 1) = (refRightN t n && ((tailB t n n == decide (kN (t.getD n 0) = 3)) && !(decide (kN (t.getD n 0) = 2) && decide (t.length < n + mN (t.getD n 0))))) := by
  simp [refRightN, List.range_succ, List.all_append]
theorem refRightN_false {t : List Nat} {k n : Nat} (h : refRightN t k = false) (hk : k ≤ n) : refRightN t n = false := by
  induction n with
  | zero => obtain rfl : k = 0 := by omega
            exact h
  | succ n ih =>
    by_cases e : k = n + 1
    · subst e; exact h
    · rw [refRightN_succ, ih (by omega), Bool.false_and]
/-- both ways of telling agree at each prefix -/
theorem run_tail {t : List Nat} (hok : t.all okN = true) : ∀ p, p ≤ t.length →
    (∀ n, runT t p = some n → (∀ i, p ≤ i → tailB t p i = decide (i < p + n)) ∧ (refRightN t p = decide (∀ k, k < p → kN (t.getD k 0) = 2 → k + mN (t.getD k 0) ≤ t.length))) ∧ (runT t p = none → refRightN t p = false)
  | 0, _ => ⟨fun n h => by
      simp only [runT, Option.some.injEq] at h
      subst h
      refine ⟨fun i _ => by simp [tailB], by simp [refRightN]⟩, fun h => by simp [runT] at h⟩
  | p + 1, hp => by
    obtain ⟨h1, h2⟩ := run_tail hok p (by omega)
    simp only [runT]
    cases hr : runT t p with
    | none =>
      refine ⟨fun n h => by simp at h, fun _ => ?_⟩
      rw [refRightN_succ, h2 hr, Bool.false_and]
    | some n =>
      obtain ⟨ha, hb⟩ := h1 n hr
      have hx := okN_t (all_at hok (show p < t.length by omega))
      rw [refRightN_succ, hb, ha p (Nat.le_refl _)]
      simp only [Option.bind_some]
      generalize hxx : t.getD p 0 = x at *
      have hpn : decide (p < p + n) = decide (0 < n) := by by_cases h : 0 < n <;> simp [h]
      rw [hpn]
      unfold stepT
      by_cases hs : decide (kN x = 3) = decide (0 < n)
      · rw [if_pos hs]
        refine ⟨fun m hm => ?_, fun h => by simp at h⟩
        simp only [Option.some.injEq] at hm
        refine ⟨fun i hi => ?_, ?_⟩
        · rw [tailB_succ, ha i (by omega), hxx]
          rw [decide_eq_decide] at hs
          have hX := hx
          unfold RightN at hX
          by_cases k3 : kN x = 3
          · have k2 : ¬ kN x = 2 := by omega
            rw [if_pos k3] at hm
            have := hs.1 k3
            simp [k2]
            omega
          · rw [if_neg k3] at hm
            have hn0 : n = 0 := by
              by_cases e : 0 < n
              · exact absurd (hs.2 e) k3
              · omega
            subst hn0
            by_cases k2 : kN x = 2
            · rw [if_pos k2] at hm
              rw [Bool.eq_iff_iff]
              simp only [k2, Bool.or_eq_true, Bool.and_eq_true, decide_eq_true_eq, true_and]
              omega
            · rw [if_neg k2] at hm
              simp [k2]
              omega
        · rw [hs]
          simp only [beq_self_eq_true, Bool.true_and]
          rw [Bool.eq_iff_iff]
          simp only [Bool.and_eq_true, decide_eq_true_eq, Bool.not_eq_true', Bool.and_eq_false_iff, decide_eq_false_iff_not]
          constructor
          · rintro ⟨q1, q2⟩ k hk hk2
            by_cases e : k = p
            · subst e
              rw [hxx] at hk2 ⊢
              rcases q2 with q2 | q2
              · exact absurd hk2 q2
              · omega
            · exact q1 k (by omega) hk2
          · intro q
            refine ⟨fun k hk => q k (by omega), ?_⟩
            by_cases k2 : kN x = 2
            · right
              have := q p (by omega) (by rw [hxx]; exact k2)
              rw [hxx] at this
              omega
            · exact .inl k2
      · rw [if_neg hs]
        refine ⟨fun n h => by simp at h, fun _ => ?_⟩
        have : (decide (0 < n) == decide (kN x = 3)) = false := by
          rw [beq_eq_false_iff_ne]
          exact fun h => hs h.symm
        rw [this]
        simp
theorem right_same (t : List Nat) : refRightB t = rightT t := by
  unfold refRightB rightT
  cases hok : t.all okN with
  | false => simp
  | true =>
    simp only [Bool.true_and]
    obtain ⟨h1, h2⟩ := run_tail hok t.length (Nat.le_refl _)
    cases hr : runT t t.length with
    | none => rw [h2 hr]; rfl
    | some n =>
      obtain ⟨ha, hb⟩ := h1 n hr
      rw [hb]
      have hq := ha t.length (Nat.le_refl _)
      rw [Bool.eq_iff_iff]
      simp only [decide_eq_true_eq, beq_iff_eq, Option.some.injEq]
      constructor
      · intro q
        by_cases e : 0 < n
        · rw [decide_eq_true (by omega)] at hq
          obtain ⟨k, hk, hk2⟩ := List.any_eq_true.1 hq
          simp only [Bool.and_eq_true, decide_eq_true_eq] at hk2
          have := q k (List.mem_range.1 hk) hk2.1
          omega
        · omega
      · rintro rfl k hk hk2
        rw [decide_eq_false (by omega)] at hq
        have := List.any_eq_false.1 hq k (List.mem_range.2 hk)
        simp only [Bool.and_eq_true, decide_eq_true_eq, not_and] at this
        have := this hk2
        omega
/-- live blocks: chunk, index, words -/
abbrev Bl := Nat × Nat × Nat
def mnN (c : Nat) : Nat := if c = 0 then 8 else if c = 1 then 4 else if c = 2 then 2 else 0
def blN (c : Nat) : Nat := if c = 0 then 4 else if c = 1 then 8 else if c = 2 then 16 else 0
def liveL (b m : Nat) : List Nat := (List.range m).filter b.testBit
def blksAt (i x : Nat) : List Bl := if kN x = 1 then (liveL (bN x) (mnN (cN x))).map (fun j => (i, j, blN (cN x))) else if kN x = 2 then [(i, 0, mN x * 32)] else []
def blksFrom : Nat → List Nat → List Bl
  | _, [] => []
  | o, x :: t => blksAt o x ++ blksFrom (o + 1) t
def blksT (t : List Nat) : List Bl := if t.all okN then blksFrom 0 t else []
theorem blksFrom_app : ∀ (o : Nat) (t u : List Nat), blksFrom o (t ++ u) = blksFrom o t ++ blksFrom (o + t.length) u
  | o, [], u => by simp [blksFrom]
  | o, x :: t, u => by
    simp only [List.cons_append, blksFrom, blksFrom_app (o + 1) t u, List.append_assoc, List.length_cons]
    rw [show o + 1 + t.length = o + (t.length + 1) by omega]
theorem blksFrom_take (t : List Nat) (k : Nat) (hk : k < t.length) : blksFrom 0 (t.take (k + 1)) = blksFrom 0 (t.take k) ++ blksAt k (t.getD k 0) := by
  rw [List.take_succ_eq_append_getElem hk, blksFrom_app]
  congr 1
  simp only [blksFrom, List.append_nil, Nat.zero_add, List.length_take]
  rw [Nat.min_eq_left (by omega), List.getD_eq_getElem?_getD, List.getElem?_eq_getElem hk]
  rfl
theorem blksAt_shift (d i x : Nat) : blksAt (i + d) x = (blksAt i x).map (fun b => (b.1 + d, b.2)) := by
  unfold blksAt
  split
  · simp
  · split <;> simp
theorem blksFrom_shift (d : Nat) : ∀ (i : Nat) (u : List Nat), blksFrom (i + d) u = (blksFrom i u).map (fun b => (b.1 + d, b.2))
  | _, [] => rfl
  | i, x :: u => by
    simp only [blksFrom, List.map_append]
    rw [← blksFrom_shift d (i + 1) u, ← blksAt_shift, show i + d + 1 = i + 1 + d by omega]
theorem blksT_app {t u : List Nat} (ht : t.all okN = true) (hu : u.all okN = true) : blksT (t ++ u) = blksT t ++ (blksT u).map (fun b => (b.1 + t.length, b.2)) := by
  unfold blksT
  rw [List.all_append, ht, hu]
  simp only [Bool.and_self, if_true]
  rw [blksFrom_app, ← blksFrom_shift]
theorem liveL_len (b m : Nat) : (liveL b m).length ≤ m := by
  unfold liveL
  refine Nat.le_trans (List.length_filter_le _ _) ?_
  rw [List.length_range]; exact Nat.le_refl _
theorem mnN_le (c : Nat) : mnN c ≤ 8 := by unfold mnN; split <;> (try split) <;> (try split) <;> omega
theorem blksAt_len (i x : Nat) : (blksAt i x).length ≤ 8 := by
  unfold blksAt
  split
  · rw [List.length_map]; exact Nat.le_trans (liveL_len _ _) (mnN_le _)
  · split <;> simp
theorem blksFrom_len : ∀ (o : Nat) (t : List Nat), (blksFrom o t).length ≤ 8 * t.length
  | _, [] => by simp [blksFrom]
  | o, x :: t => by
    rw [blksFrom, List.length_append, List.length_cons]
    have := blksAt_len o x
    have := blksFrom_len (o + 1) t
    omega
theorem blksFrom_in : ∀ (o : Nat) (t : List Nat) (b : Bl), b ∈ blksFrom o t → o ≤ b.1 ∧ b.1 < o + t.length ∧ b ∈ blksAt b.1 (t.getD (b.1 - o) 0)
  | _, [], b, h => by simp [blksFrom] at h
  | o, x :: t, b, h => by
    rw [blksFrom, List.mem_append] at h
    rcases h with h | h
    · have hb : b.1 = o := by
        unfold blksAt at h
        split at h
        · obtain ⟨j, _, rfl⟩ := List.mem_map.1 h; rfl
        · split at h
          · simp at h; rw [h]
          · simp at h
      refine ⟨by omega, by rw [List.length_cons]; omega, ?_⟩
      rw [hb, Nat.sub_self]
      exact h
    · obtain ⟨h1, h2, h3⟩ := blksFrom_in (o + 1) t b h
      refine ⟨by omega, by rw [List.length_cons]; omega, ?_⟩
      rw [show b.1 - o = (b.1 - (o + 1)) + 1 by omega, List.getD_cons_succ]
      exact h3
/-- rows: spans of chunks that can be had -/
def rowsL (f : Nat → Bool) : Nat → List (Nat × Nat)
  | 0 => []
  | k + 1 => if f k then
      (if 0 < (rowsL f k).length ∧ ((rowsL f k).getD ((rowsL f k).length - 1) default).1 + ((rowsL f k).getD ((rowsL f k).length - 1) default).2 = k
        then (rowsL f k).set ((rowsL f k).length - 1) (((rowsL f k).getD ((rowsL f k).length - 1) default).1, ((rowsL f k).getD ((rowsL f k).length - 1) default).2 + 1)
        else rowsL f k ++ [(k, 1)])
      else rowsL f k
structure RowOk (f : Nat → Bool) (n : Nat) (s : Nat × Nat) : Prop where
  pos : 1 ≤ s.2
  top : s.1 + s.2 ≤ n
  all : ∀ k, k < s.2 → f (s.1 + k) = true
  ahead : 0 < s.1 → f (s.1 - 1) = false
  behind : s.1 + s.2 < n → f (s.1 + s.2) = false
structure RowsOk (f : Nat → Bool) (n : Nat) (l : List (Nat × Nat)) : Prop where
  each : ∀ i, i < l.length → RowOk f n (l.getD i default)
  sort : ∀ i, i + 1 < l.length → (l.getD i default).1 + (l.getD i default).2 < (l.getD (i + 1) default).1
  cover : ∀ k, k < n → f k = true → ∃ i, i < l.length ∧ (l.getD i default).1 ≤ k ∧ k < (l.getD i default).1 + (l.getD i default).2
theorem rows_sort {f : Nat → Bool} {n : Nat} {l : List (Nat × Nat)} (h : RowsOk f n l) : ∀ d i, i + d + 1 < l.length → (l.getD i default).1 + (l.getD i default).2 < (l.getD (i + d + 1) default).1
  | 0, i, hi => h.sort i hi
  | d + 1, i, hi => by
    have h1 := rows_sort h d i (by omega)
    have h2 := h.sort (i + d + 1) (by omega)
    have h3 := (h.each (i + d + 1) (by omega)).pos
    rw [show i + (d + 1) + 1 = i + d + 1 + 1 by omega]
    omega
theorem getD_set_last {α : Type} (l : List α) (x d : α) (h : 0 < l.length) (i : Nat) : (l.set (l.length - 1) x).getD i d = if i = l.length - 1 then x else l.getD i d := by
  simp only [List.getD_eq_getElem?_getD, List.getElem?_set]
  by_cases e : l.length - 1 = i
  · rw [if_pos e, if_pos e.symm, if_pos (by omega)]; rfl
  · rw [if_neg e, if_neg (Ne.symm e)]
theorem getD_app_last {α : Type} (l : List α) (x d : α) (i : Nat) (hi : i ≤ l.length) : (l ++ [x]).getD i d = if i = l.length then x else l.getD i d := by
  simp only [List.getD_eq_getElem?_getD]
  by_cases e : i = l.length
  · rw [if_pos e, List.getElem?_append_right (by omega), e, Nat.sub_self]; rfl
  · rw [if_neg e, List.getElem?_append_left (by omega)]
theorem rows_ok (f : Nat → Bool) : ∀ n, RowsOk f n (rowsL f n)
  | 0 => ⟨fun i h => by simp [rowsL] at h, fun i h => by simp [rowsL] at h, fun k h => by omega⟩
  | n + 1 => by
    have ih := rows_ok f n
    rw [rowsL]
    generalize rowsL f n = l at *
    by_cases hf : f n = true
    · rw [if_pos hf]
      by_cases hc : 0 < l.length ∧ (l.getD (l.length - 1) default).1 + (l.getD (l.length - 1) default).2 = n
      · rw [if_pos hc]
        obtain ⟨hl, hc⟩ := hc
        have hL := ih.each (l.length - 1) (by omega)
        generalize hx : l.getD (l.length - 1) default = x at *
        refine ⟨fun i hi => ?_, fun i hi => ?_, fun k hk hfk => ?_⟩
        · rw [List.length_set] at hi
          rw [getD_set_last _ _ _ hl]
          by_cases e : i = l.length - 1
          · rw [if_pos e]
            refine ⟨by simp, by simp only []; omega, fun k hk => ?_, hL.ahead, fun h => by simp only [] at h; omega⟩
            simp only [] at hk ⊢
            by_cases e2 : k < x.2
            · exact hL.all k e2
            · rw [show x.1 + k = n by omega]; exact hf
          · rw [if_neg e]
            have h1 := ih.each i hi
            refine ⟨h1.pos, by have := h1.top; omega, h1.all, h1.ahead, fun h => ?_⟩
            have hs := rows_sort ih (l.length - 1 - i - 1) i (by omega)
            rw [show i + (l.length - 1 - i - 1) + 1 = l.length - 1 by omega, hx] at hs
            have := hL.pos
            exact h1.behind (by omega)
        · rw [List.length_set] at hi
          rw [getD_set_last _ _ _ hl, getD_set_last _ _ _ hl]
          rw [if_neg (by omega)]
          have := ih.sort i hi
          by_cases e : i + 1 = l.length - 1
          · rw [if_pos e]
            rw [e, hx] at this
            exact this
          · rw [if_neg e]; exact this
        · rw [List.length_set]
          by_cases e : k = n
          · refine ⟨l.length - 1, by omega, ?_⟩
            rw [getD_set_last _ _ _ hl, if_pos rfl]
            have := hL.pos
            simp only []; omega
          · obtain ⟨i, hi, h1, h2⟩ := ih.cover k (by omega) hfk
            refine ⟨i, hi, ?_⟩
            rw [getD_set_last _ _ _ hl]
            by_cases e2 : i = l.length - 1
            · rw [if_pos e2]
              rw [e2, hx] at h1 h2
              simp only []; omega
            · rw [if_neg e2]; exact ⟨h1, h2⟩
      · rw [if_neg hc]
        have hlast : ∀ i, i < l.length → (l.getD i default).1 + (l.getD i default).2 < n := fun i hi => by
          have h1 := (ih.each i hi).top
          by_cases e : i = l.length - 1
          · subst e
            have : ¬ (l.getD (l.length - 1) default).1 + (l.getD (l.length - 1) default).2 = n := fun h => hc ⟨by omega, h⟩
            omega
          · have hs := rows_sort ih (l.length - 1 - i - 1) i (by omega)
            rw [show i + (l.length - 1 - i - 1) + 1 = l.length - 1 by omega] at hs
            have := (ih.each (l.length - 1) (by omega)).top
            have := (ih.each (l.length - 1) (by omega)).pos
            omega
        refine ⟨fun i hi => ?_, fun i hi => ?_, fun k hk hfk => ?_⟩
        · rw [List.length_append, List.length_singleton] at hi
          rw [getD_app_last _ _ _ _ (by omega)]
          by_cases e : i = l.length
          · rw [if_pos e]
            refine ⟨by simp, by simp, fun k hk => ?_, fun h => ?_, fun h => by simp at h⟩
            · simp only [] at hk ⊢
              rw [show n + k = n by omega]; exact hf
            · simp only [] at h ⊢
              cases hb : f (n - 1) with
              | false => rfl
              | true =>
                obtain ⟨j, hj, h1, h2⟩ := ih.cover (n - 1) (by omega) hb
                have := hlast j hj
                omega
          · rw [if_neg e]
            have h1 := ih.each i (by omega)
            have := hlast i (by omega)
            exact ⟨h1.pos, by omega, h1.all, h1.ahead, fun h => h1.behind (by omega)⟩
        · rw [List.length_append, List.length_singleton] at hi
          rw [getD_app_last _ _ _ _ (by omega), getD_app_last _ _ _ _ (by omega), if_neg (by omega)]
          by_cases e : i + 1 = l.length
          · rw [if_pos e]; exact hlast i (by omega)
          · rw [if_neg e]; exact ih.sort i (by omega)
        · rw [List.length_append, List.length_singleton]
          by_cases e : k = n
          · refine ⟨l.length, by omega, ?_⟩
            rw [getD_app_last _ _ _ _ (by omega), if_pos rfl]
            simp only []; omega
          · obtain ⟨i, hi, h1, h2⟩ := ih.cover k (by omega) hfk
            refine ⟨i, by omega, ?_⟩
            rw [getD_app_last _ _ _ _ (by omega), if_neg (by omega)]; exact ⟨h1, h2⟩
    · rw [if_neg hf]
      have hf' : f n = false := by simpa using hf
      refine ⟨fun i hi => ?_, ih.sort, fun k hk hfk => ?_⟩
      · have h1 := ih.each i hi
        have := h1.top
        refine ⟨h1.pos, by omega, h1.all, h1.ahead, fun h => ?_⟩
        by_cases e : (l.getD i default).1 + (l.getD i default).2 = n
        · rw [e]; exact hf'
        · exact h1.behind (by omega)
      · by_cases e : k = n
        · subst e; rw [hf'] at hfk; cases hfk
        · exact ih.cover k (by omega) hfk
theorem rowsL_len (f : Nat → Bool) : ∀ n, (rowsL f n).length ≤ n
  | 0 => by simp [rowsL]
  | n + 1 => by
    have := rowsL_len f n
    rw [rowsL]
    split
    · split
      · rw [List.length_set]; omega
      · rw [List.length_append, List.length_singleton]; omega
    · omega
def mayN (x : Nat) : Bool := decide (kN x = 0) || decide (kN x = 1 ∧ bN x = 0)
def rowsT (t : List Nat) : List (Nat × Nat) := if t.all okN then rowsL (fun k => mayN (t.getD k 0)) t.length else []
end Go.Proofs.YtnjifmecaeagaaaDoor
