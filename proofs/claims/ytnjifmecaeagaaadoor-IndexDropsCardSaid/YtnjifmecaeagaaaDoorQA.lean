/-
  Package tile: its mathematics: words of chunks, tails, live blocks, rows.
  Small facts that all proofs of this family use: what is below, kept cells, a row's end where the call has made new memory alone.
  Lists whose elements are a few cells each, in memory: what came in (EL), what is the call's own (OwnE); append, store, an argument opened.
  Words in memory, for every seat: lists that came in (KL), rows of the call's own (OwnU), append, clone, compare.
  Plain arithmetic on words of 64 bits: what is cut off, what is laid into a word's bits.
  What the calls of package field answer, where the bits fit: contracts on the calls.
  Plain arithmetic: the ones of a word, the lowest first.
  math/bits.TrailingZeros64 at a word that isn't 0, where its table lies as the library's text lays it.
  A drawn region of which some guards are false, step by step: one operation that yields is taken first (takeL), one that nobody wants is taken first (idleL), the only one that may come up comes up (oneL). The operation is found in the list as it is written out.
  What the calls of package chunk answer: the places, the word.
  What the calls of package class, and of the document's answers beside it, answer: contracts on the calls. 'Tab': the table of the blocks' words lies where the program laid it.
  A drawn region inside the round of a range over a function: whatever serves it outside of rounds serves it there.
  A drawn region whose last operation may change what the others read: S holds behind every operation but the last one, which waits for all others. Step by step: one that yields is taken first (takeS), one that nobody wants (idleS), the only one that may come up (oneS), the last one (lastS).
  A range over a function whose iterator tells the body something of each element and of the world in which it comes (T): what an own invariant cannot learn otherwise.
-/
import Derived.Handy
import Derived.Lib.Hide
import Derived.ProofKit
import Derived.OpenShut
import Derived.Test.YtnjifmecaeagaaaDoorRows
import Derived.WalkSpells
import Derived.WalkLawsBesides
import Derived.Deep.RegionHeld3
import Derived.Deep.QuietTactic
import Derived.BigQuiet
import Derived.ChangeSlices
import Derived.Carry
import Derived.Deep.SlicePairs
import Derived.OwnWalk
import Derived.Maps.AppendAt
import Derived.Lib.SliceRun
import Derived.Lib.AppendZerosOnto
import Derived.Laws.CopyOwn
import Derived.Laws.BitsAllLaws
import Derived.Laws.ShiftsVarLaws
import Derived.OwnWalkIn
import Derived.StillTail
import Derived.RangeFuncNested
import Derived.RangeFuncBound
import Derived.RangeFuncCalls
import Derived.RangeFuncLeaves
import Derived.RangeFuncFrom
import Derived.RangeFuncWrites
import Derived.RangeFuncBox
section
set_option linter.unusedVariables false
set_option linter.unusedSimpArgs false
namespace Go.Proofs.YtnjifmecaeagaaaDoor
def kN (x : Nat) : Nat := x % 8
def cN (x : Nat) : Nat := x / 8 % 4
def lnN (x : Nat) : Nat := x / 32 % 64
def mN (x : Nat) : Nat := x / 2048 % 8192
def bN (x : Nat) : Nat := x / 16777216 % 256
def RightN (x : Nat) : Prop := x < 4294967296 ∧ (((kN x = 0 ∨ kN x = 3) ∧ cN x = 0 ∧ lnN x = 0 ∧ mN x = 0 ∧ bN x = 0) ∨
  (kN x = 1 ∧ lnN x = 0 ∧ mN x = 0 ∧ ((cN x = 0 ∧ bN x < 256) ∨ (cN x = 1 ∧ bN x < 16) ∨ (cN x = 2 ∧ bN x < 4))) ∨
  (kN x = 2 ∧ cN x = 0 ∧ lnN x = 0 ∧ bN x = 0 ∧ 1 ≤ mN x ∧ mN x ≤ 8191) ∨ (kN x = 4 ∧ cN x = 0 ∧ bN x = 0 ∧ lnN x < 64 ∧ mN x ≤ 7))
instance (x : Nat) : Decidable (RightN x) := by unfold RightN; infer_instance
def okN (x : Nat) : Bool := decide (RightN x)
theorem okN_t {x : Nat} (h : okN x = true) : RightN x := of_decide_eq_true h
theorem parts_bd (x : Nat) : kN x < 8 ∧ cN x < 4 ∧ lnN x < 64 ∧ mN x < 8192 ∧ bN x < 256 := by
  unfold kN cN lnN mN bN; omega

/-- how many tails are still wanted -/
def stepT (x n : Nat) : Option Nat := if decide (kN x = 3) = decide (0 < n) then some (if kN x = 3 then n - 1 else if kN x = 2 then mN x - 1 else n) else none
def runT (t : List Nat) : Nat → Option Nat
  | 0 => some 0
  | k + 1 => (runT t k).bind (stepT (t.getD k 0))
def rightT (t : List Nat) : Bool := t.all okN && (runT t t.length == some 0)
theorem runT_none {t : List Nat} {k : Nat} (h : runT t k = none) : ∀ j, k ≤ j → runT t j = none := by
  intro j hj
  induction j with
  | zero => obtain rfl : k = 0 := by omega
            exact h
  | succ j ih =>
    by_cases e : k = j + 1
    · subst e; exact h
    · have := ih (by omega)
      simp only [runT, this, Option.bind_none]
theorem all_at {t : List Nat} (h : t.all okN = true) {k : Nat} (hk : k < t.length) : okN (t.getD k 0) = true := by
  rw [List.getD_eq_getElem?_getD, List.getElem?_eq_getElem hk]
  exact List.all_eq_true.1 h _ (List.getElem_mem hk)
theorem runT_app (t u : List Nat) : ∀ k, k ≤ t.length → runT (t ++ u) k = runT t k
  | 0, _ => rfl
  | k + 1, hk => by
    simp only [runT]
    rw [runT_app t u k (by omega)]
    congr 2
    simp only [List.getD_eq_getElem?_getD]
    rw [List.getElem?_append_left (by omega)]
theorem runT_app2 (t u : List Nat) (h : runT t t.length = some 0) : ∀ j, runT (t ++ u) (t.length + j) = runT u j
  | 0 => by rw [Nat.add_zero, runT_app t u _ (Nat.le_refl _), h]; rfl
  | j + 1 => by
    rw [← Nat.add_assoc]
    simp only [runT]
    rw [runT_app2 t u h j]
    congr 2
    simp only [List.getD_eq_getElem?_getD]
    rw [List.getElem?_append_right (by omega)]
    congr 2
    omega
theorem rightT_t {t : List Nat} (h : rightT t = true) : t.all okN = true ∧ runT t t.length = some 0 := by
  simp only [rightT, Bool.and_eq_true, beq_iff_eq] at h; exact h
theorem rightT_mk {t : List Nat} (h1 : t.all okN = true) (h2 : runT t t.length = some 0) : rightT t = true := by
  simp only [rightT, Bool.and_eq_true, beq_iff_eq]; exact ⟨h1, h2⟩
theorem rightT_app {t u : List Nat} (h1 : rightT t = true) (h2 : rightT u = true) : rightT (t ++ u) = true := by
  obtain ⟨a1, b1⟩ := rightT_t h1
  obtain ⟨a2, b2⟩ := rightT_t h2
  refine rightT_mk (by rw [List.all_append, a1, a2]; rfl) ?_
  rw [List.length_append, runT_app2 t u b1, b2]
theorem rightT_nil : rightT [] = true := rfl
theorem rightT_one {x : Nat} (h : okN x = true) (h2 : ¬ kN x = 2) (h3 : ¬ kN x = 3) : rightT [x] = true := by
  refine rightT_mk (by simp [h]) ?_
  simp [runT, stepT, h2, h3]
theorem runT_huge (x n : Nat) (hk : kN x = 2) (hm : mN x = n + 1) : ∀ j, j ≤ n → runT (x :: List.replicate n 3) (j + 1) = some (n - j)
  | 0, _ => by simp [runT, stepT, hk, hm]
  | j + 1, hj => by
    rw [runT, runT_huge x n hk hm j (by omega)]
    have e : (x :: List.replicate n 3).getD (j + 1) 0 = 3 := by
      simp only [List.getD_eq_getElem?_getD, List.getElem?_cons_succ]
      rw [List.getElem?_replicate, if_pos (by omega)]
      rfl
    rw [e]
    have : kN 3 = 3 := rfl
    simp only [Option.bind_some, stepT, this]
    have h0 : 0 < n - j := by omega
    simp [h0]
    omega
theorem rightT_huge {x n : Nat} (h : okN x = true) (hk : kN x = 2) (hm : mN x = n + 1) : rightT (x :: List.replicate n 3) = true := by
  refine rightT_mk ?_ ?_
  · rw [List.all_eq_true]
    intro y hy
    rcases List.mem_cons.1 hy with rfl | hy
    · exact h
    · have := List.eq_of_mem_replicate hy
      subst this
      decide
  · have := runT_huge x n hk hm n (Nat.le_refl _)
    rw [List.length_cons, List.length_replicate, this, Nat.sub_self]

/-- is a chunk a tail of some huge one -/
def tailB (t : List Nat) (n i : Nat) : Bool := (List.range n).any fun k => decide (kN (t.getD k 0) = 2) && decide (i < k + mN (t.getD k 0))
theorem tailB_succ (t : List Nat) (n i : Nat) : tailB t (n + 1) i = (tailB t n i || (decide (kN (t.getD n 0) = 2) && decide (i < n + mN (t.getD n 0)))) := by
  simp [tailB, List.range_succ, List.any_append]
def refRightN (t : List Nat) (n : Nat) : Bool := (List.range n).all fun i => (tailB t i i == decide (kN (t.getD i 0) = 3)) && !(decide (kN (t.getD i 0) = 2) && decide (t.length < i + mN (t.getD i 0)))
def refRightB (t : List Nat) : Bool := t.all okN && refRightN t t.length
theorem refRightN_succ (t : List Nat) (n : Nat) : refRightN t (n + 1) = (refRightN t n && ((tailB t n n == decide (kN (t.getD n 0) = 3)) && !(decide (kN (t.getD n 0) = 2) && decide (t.length < n + mN (t.getD n 0))))) := by
  simp [refRightN, List.range_succ, List.all_append]
theorem refRightN_false {t : List Nat} {k n : Nat} (h : refRightN t k = false) (hk : k ≤ n) : refRightN t n = false := by
  induction n with
  | zero => obtain rfl : k = 0 := by omega
            exact h
  | succ n ih =>
    by_cases e : k = n + 1
    · subst e; exact h
    · rw [refRightN_succ, ih (by omega), Bool.false_and]
/-- both ways of telling agree at each prefix -/
theorem run_tail {t : List Nat} (hok : t.all okN = true) : ∀ p, p ≤ t.length →
    (∀ n, runT t p = some n → (∀ i, p ≤ i → tailB t p i = decide (i < p + n)) ∧ (refRightN t p = decide (∀ k, k < p → kN (t.getD k 0) = 2 → k + mN (t.getD k 0) ≤ t.length))) ∧ (runT t p = none → refRightN t p = false)
  | 0, _ => ⟨fun n h => by
      simp only [runT, Option.some.injEq] at h
      subst h
      refine ⟨fun i _ => by simp [tailB], by simp [refRightN]⟩, fun h => by simp [runT] at h⟩
  | p + 1, hp => by
    obtain ⟨h1, h2⟩ := run_tail hok p (by omega)
    simp only [runT]
    cases hr : runT t p with
    | none =>
      refine ⟨fun n h => by simp at h, fun _ => ?_⟩
      rw [refRightN_succ, h2 hr, Bool.false_and]
    | some n =>
      obtain ⟨ha, hb⟩ := h1 n hr
      have hx := okN_t (all_at hok (show p < t.length by omega))
      rw [refRightN_succ, hb, ha p (Nat.le_refl _)]
      simp only [Option.bind_some]
      generalize hxx : t.getD p 0 = x at *
      have hpn : decide (p < p + n) = decide (0 < n) := by by_cases h : 0 < n <;> simp [h]
      rw [hpn]
      unfold stepT
      by_cases hs : decide (kN x = 3) = decide (0 < n)
      · rw [if_pos hs]
        refine ⟨fun m hm => ?_, fun h => by simp at h⟩
        simp only [Option.some.injEq] at hm
        refine ⟨fun i hi => ?_, ?_⟩
        · rw [tailB_succ, ha i (by omega), hxx]
          rw [decide_eq_decide] at hs
          have hX := hx
          unfold RightN at hX
          by_cases k3 : kN x = 3
          · have k2 : ¬ kN x = 2 := by omega
            rw [if_pos k3] at hm
            have := hs.1 k3
            simp [k2]
            omega
          · rw [if_neg k3] at hm
            have hn0 : n = 0 := by
              by_cases e : 0 < n
              · exact absurd (hs.2 e) k3
              · omega
            subst hn0
            by_cases k2 : kN x = 2
            · rw [if_pos k2] at hm
              rw [Bool.eq_iff_iff]
              simp only [k2, Bool.or_eq_true, Bool.and_eq_true, decide_eq_true_eq, true_and]
              omega
            · rw [if_neg k2] at hm
              simp [k2]
              omega
        · rw [hs]
          simp only [beq_self_eq_true, Bool.true_and]
          rw [Bool.eq_iff_iff]
          simp only [Bool.and_eq_true, decide_eq_true_eq, Bool.not_eq_true', Bool.and_eq_false_iff, decide_eq_false_iff_not]
          constructor
          · rintro ⟨q1, q2⟩ k hk hk2
            by_cases e : k = p
            · subst e
              rw [hxx] at hk2 ⊢
              rcases q2 with q2 | q2
              · exact absurd hk2 q2
              · omega
            · exact q1 k (by omega) hk2
          · intro q
            refine ⟨fun k hk => q k (by omega), ?_⟩
            by_cases k2 : kN x = 2
            · right
              have := q p (by omega) (by rw [hxx]; exact k2)
              rw [hxx] at this
              omega
            · exact .inl k2
      · rw [if_neg hs]
        refine ⟨fun n h => by simp at h, fun _ => ?_⟩
        have : (decide (0 < n) == decide (kN x = 3)) = false := by
          rw [beq_eq_false_iff_ne]
          exact fun h => hs h.symm
        rw [this]
        simp
theorem right_same (t : List Nat) : refRightB t = rightT t := by
  unfold refRightB rightT
  cases hok : t.all okN with
  | false => simp
  | true =>
    simp only [Bool.true_and]
    obtain ⟨h1, h2⟩ := run_tail hok t.length (Nat.le_refl _)
    cases hr : runT t t.length with
    | none => rw [h2 hr]; rfl
    | some n =>
      obtain ⟨ha, hb⟩ := h1 n hr
      rw [hb]
      have hq := ha t.length (Nat.le_refl _)
      rw [Bool.eq_iff_iff]
      simp only [decide_eq_true_eq, beq_iff_eq, Option.some.injEq]
      constructor
      · intro q
        by_cases e : 0 < n
        · rw [decide_eq_true (by omega)] at hq
          obtain ⟨k, hk, hk2⟩ := List.any_eq_true.1 hq
          simp only [Bool.and_eq_true, decide_eq_true_eq] at hk2
          have := q k (List.mem_range.1 hk) hk2.1
          omega
        · omega
      · rintro rfl k hk hk2
        rw [decide_eq_false (by omega)] at hq
        have := List.any_eq_false.1 hq k (List.mem_range.2 hk)
        simp only [Bool.and_eq_true, decide_eq_true_eq, not_and] at this
        have := this hk2
        omega
/-- live blocks: chunk, index, words -/
abbrev Bl := Nat × Nat × Nat
def mnN (c : Nat) : Nat := if c = 0 then 8 else if c = 1 then 4 else if c = 2 then 2 else 0
def blN (c : Nat) : Nat := if c = 0 then 4 else if c = 1 then 8 else if c = 2 then 16 else 0
def liveL (b m : Nat) : List Nat := (List.range m).filter b.testBit
def blksAt (i x : Nat) : List Bl := if kN x = 1 then (liveL (bN x) (mnN (cN x))).map (fun j => (i, j, blN (cN x))) else if kN x = 2 then [(i, 0, mN x * 32)] else []
def blksFrom : Nat → List Nat → List Bl
  | _, [] => []
  | o, x :: t => blksAt o x ++ blksFrom (o + 1) t
def blksT (t : List Nat) : List Bl := if t.all okN then blksFrom 0 t else []
theorem blksFrom_app : ∀ (o : Nat) (t u : List Nat), blksFrom o (t ++ u) = blksFrom o t ++ blksFrom (o + t.length) u
  | o, [], u => by simp [blksFrom]
  | o, x :: t, u => by
    simp only [List.cons_append, blksFrom, blksFrom_app (o + 1) t u, List.append_assoc, List.length_cons]
    rw [show o + 1 + t.length = o + (t.length + 1) by omega]
theorem blksFrom_take (t : List Nat) (k : Nat) (hk : k < t.length) : blksFrom 0 (t.take (k + 1)) = blksFrom 0 (t.take k) ++ blksAt k (t.getD k 0) := by
  rw [List.take_succ_eq_append_getElem hk, blksFrom_app]
  congr 1
  simp only [blksFrom, List.append_nil, Nat.zero_add, List.length_take]
  rw [Nat.min_eq_left (by omega), List.getD_eq_getElem?_getD, List.getElem?_eq_getElem hk]
  rfl
theorem blksAt_shift (d i x : Nat) : blksAt (i + d) x = (blksAt i x).map (fun b => (b.1 + d, b.2)) := by
  unfold blksAt
  split
  · simp
  · split <;> simp
theorem blksFrom_shift (d : Nat) : ∀ (i : Nat) (u : List Nat), blksFrom (i + d) u = (blksFrom i u).map (fun b => (b.1 + d, b.2))
  | _, [] => rfl
  | i, x :: u => by
    simp only [blksFrom, List.map_append]
    rw [← blksFrom_shift d (i + 1) u, ← blksAt_shift, show i + d + 1 = i + 1 + d by omega]
theorem blksT_app {t u : List Nat} (ht : t.all okN = true) (hu : u.all okN = true) : blksT (t ++ u) = blksT t ++ (blksT u).map (fun b => (b.1 + t.length, b.2)) := by
  unfold blksT
  rw [List.all_append, ht, hu]
  simp only [Bool.and_self, if_true]
  rw [blksFrom_app, ← blksFrom_shift]
theorem liveL_len (b m : Nat) : (liveL b m).length ≤ m := by
  unfold liveL
  refine Nat.le_trans (List.length_filter_le _ _) ?_
  rw [List.length_range]; exact Nat.le_refl _
theorem mnN_le (c : Nat) : mnN c ≤ 8 := by unfold mnN; split <;> (try split) <;> (try split) <;> omega
theorem blksAt_len (i x : Nat) : (blksAt i x).length ≤ 8 := by
  unfold blksAt
  split
  · rw [List.length_map]; exact Nat.le_trans (liveL_len _ _) (mnN_le _)
  · split <;> simp
theorem blksFrom_len : ∀ (o : Nat) (t : List Nat), (blksFrom o t).length ≤ 8 * t.length
  | _, [] => by simp [blksFrom]
  | o, x :: t => by
    rw [blksFrom, List.length_append, List.length_cons]
    have := blksAt_len o x
    have := blksFrom_len (o + 1) t
    omega
theorem blksFrom_in : ∀ (o : Nat) (t : List Nat) (b : Bl), b ∈ blksFrom o t → o ≤ b.1 ∧ b.1 < o + t.length ∧ b ∈ blksAt b.1 (t.getD (b.1 - o) 0)
  | _, [], b, h => by simp [blksFrom] at h
  | o, x :: t, b, h => by
    rw [blksFrom, List.mem_append] at h
    rcases h with h | h
    · have hb : b.1 = o := by
        unfold blksAt at h
        split at h
        · obtain ⟨j, _, rfl⟩ := List.mem_map.1 h; rfl
        · split at h
          · simp at h; rw [h]
          · simp at h
      refine ⟨by omega, by rw [List.length_cons]; omega, ?_⟩
      rw [hb, Nat.sub_self]
      exact h
    · obtain ⟨h1, h2, h3⟩ := blksFrom_in (o + 1) t b h
      refine ⟨by omega, by rw [List.length_cons]; omega, ?_⟩
      rw [show b.1 - o = (b.1 - (o + 1)) + 1 by omega, List.getD_cons_succ]
      exact h3
/-- rows: spans of chunks that can be had -/
def rowsL (f : Nat → Bool) : Nat → List (Nat × Nat)
  | 0 => []
  | k + 1 => if f k then
      (if 0 < (rowsL f k).length ∧ ((rowsL f k).getD ((rowsL f k).length - 1) default).1 + ((rowsL f k).getD ((rowsL f k).length - 1) default).2 = k
        then (rowsL f k).set ((rowsL f k).length - 1) (((rowsL f k).getD ((rowsL f k).length - 1) default).1, ((rowsL f k).getD ((rowsL f k).length - 1) default).2 + 1)
        else rowsL f k ++ [(k, 1)])
      else rowsL f k
structure RowOk (f : Nat → Bool) (n : Nat) (s : Nat × Nat) : Prop where
  pos : 1 ≤ s.2
  top : s.1 + s.2 ≤ n
  all : ∀ k, k < s.2 → f (s.1 + k) = true
  ahead : 0 < s.1 → f (s.1 - 1) = false
  behind : s.1 + s.2 < n → f (s.1 + s.2) = false
structure RowsOk (f : Nat → Bool) (n : Nat) (l : List (Nat × Nat)) : Prop where
  each : ∀ i, i < l.length → RowOk f n (l.getD i default)
  sort : ∀ i, i + 1 < l.length → (l.getD i default).1 + (l.getD i default).2 < (l.getD (i + 1) default).1
  cover : ∀ k, k < n → f k = true → ∃ i, i < l.length ∧ (l.getD i default).1 ≤ k ∧ k < (l.getD i default).1 + (l.getD i default).2
theorem rows_sort {f : Nat → Bool} {n : Nat} {l : List (Nat × Nat)} (h : RowsOk f n l) : ∀ d i, i + d + 1 < l.length → (l.getD i default).1 + (l.getD i default).2 < (l.getD (i + d + 1) default).1
  | 0, i, hi => h.sort i hi
  | d + 1, i, hi => by
    have h1 := rows_sort h d i (by omega)
    have h2 := h.sort (i + d + 1) (by omega)
    have h3 := (h.each (i + d + 1) (by omega)).pos
    rw [show i + (d + 1) + 1 = i + d + 1 + 1 by omega]
    omega
theorem getD_set_last {α : Type} (l : List α) (x d : α) (h : 0 < l.length) (i : Nat) : (l.set (l.length - 1) x).getD i d = if i = l.length - 1 then x else l.getD i d := by
  simp only [List.getD_eq_getElem?_getD, List.getElem?_set]
  by_cases e : l.length - 1 = i
  · rw [if_pos e, if_pos e.symm, if_pos (by omega)]; rfl
  · rw [if_neg e, if_neg (Ne.symm e)]
theorem getD_app_last {α : Type} (l : List α) (x d : α) (i : Nat) (hi : i ≤ l.length) : (l ++ [x]).getD i d = if i = l.length then x else l.getD i d := by
  simp only [List.getD_eq_getElem?_getD]
  by_cases e : i = l.length
  · rw [if_pos e, List.getElem?_append_right (by omega), e, Nat.sub_self]; rfl
  · rw [if_neg e, List.getElem?_append_left (by omega)]
theorem rows_ok (f : Nat → Bool) : ∀ n, RowsOk f n (rowsL f n)
  | 0 => ⟨fun i h => by simp [rowsL] at h, fun i h => by simp [rowsL] at h, fun k h => by omega⟩
  | n + 1 => by
    have ih := rows_ok f n
    rw [rowsL]
    generalize rowsL f n = l at *
    by_cases hf : f n = true
    · rw [if_pos hf]
      by_cases hc : 0 < l.length ∧ (l.getD (l.length - 1) default).1 + (l.getD (l.length - 1) default).2 = n
      · rw [if_pos hc]
        obtain ⟨hl, hc⟩ := hc
        have hL := ih.each (l.length - 1) (by omega)
        generalize hx : l.getD (l.length - 1) default = x at *
        refine ⟨fun i hi => ?_, fun i hi => ?_, fun k hk hfk => ?_⟩
        · rw [List.length_set] at hi
          rw [getD_set_last _ _ _ hl]
          by_cases e : i = l.length - 1
          · rw [if_pos e]
            refine ⟨by simp, by simp only []; omega, fun k hk => ?_, hL.ahead, fun h => by simp only [] at h; omega⟩
            simp only [] at hk ⊢
            by_cases e2 : k < x.2
            · exact hL.all k e2
            · rw [show x.1 + k = n by omega]; exact hf
          · rw [if_neg e]
            have h1 := ih.each i hi
            refine ⟨h1.pos, by have := h1.top; omega, h1.all, h1.ahead, fun h => ?_⟩
            have hs := rows_sort ih (l.length - 1 - i - 1) i (by omega)
            rw [show i + (l.length - 1 - i - 1) + 1 = l.length - 1 by omega, hx] at hs
            have := hL.pos
            exact h1.behind (by omega)
        · rw [List.length_set] at hi
          rw [getD_set_last _ _ _ hl, getD_set_last _ _ _ hl]
          rw [if_neg (by omega)]
          have := ih.sort i hi
          by_cases e : i + 1 = l.length - 1
          · rw [if_pos e]
            rw [e, hx] at this
            exact this
          · rw [if_neg e]; exact this
        · rw [List.length_set]
          by_cases e : k = n
          · refine ⟨l.length - 1, by omega, ?_⟩
            rw [getD_set_last _ _ _ hl, if_pos rfl]
            have := hL.pos
            simp only []; omega
          · obtain ⟨i, hi, h1, h2⟩ := ih.cover k (by omega) hfk
            refine ⟨i, hi, ?_⟩
            rw [getD_set_last _ _ _ hl]
            by_cases e2 : i = l.length - 1
            · rw [if_pos e2]
              rw [e2, hx] at h1 h2
              simp only []; omega
            · rw [if_neg e2]; exact ⟨h1, h2⟩
      · rw [if_neg hc]
        have hlast : ∀ i, i < l.length → (l.getD i default).1 + (l.getD i default).2 < n := fun i hi => by
          have h1 := (ih.each i hi).top
          by_cases e : i = l.length - 1
          · subst e
            have : ¬ (l.getD (l.length - 1) default).1 + (l.getD (l.length - 1) default).2 = n := fun h => hc ⟨by omega, h⟩
            omega
          · have hs := rows_sort ih (l.length - 1 - i - 1) i (by omega)
            rw [show i + (l.length - 1 - i - 1) + 1 = l.length - 1 by omega] at hs
            have := (ih.each (l.length - 1) (by omega)).top
            have := (ih.each (l.length - 1) (by omega)).pos
            omega
        refine ⟨fun i hi => ?_, fun i hi => ?_, fun k hk hfk => ?_⟩
        · rw [List.length_append, List.length_singleton] at hi
          rw [getD_app_last _ _ _ _ (by omega)]
          by_cases e : i = l.length
          · rw [if_pos e]
            refine ⟨by simp, by simp, fun k hk => ?_, fun h => ?_, fun h => by simp at h⟩
            · simp only [] at hk ⊢
              rw [show n + k = n by omega]; exact hf
            · simp only [] at h ⊢
              cases hb : f (n - 1) with
              | false => rfl
              | true =>
                obtain ⟨j, hj, h1, h2⟩ := ih.cover (n - 1) (by omega) hb
                have := hlast j hj
                omega
          · rw [if_neg e]
            have h1 := ih.each i (by omega)
            have := hlast i (by omega)
            exact ⟨h1.pos, by omega, h1.all, h1.ahead, fun h => h1.behind (by omega)⟩
        · rw [List.length_append, List.length_singleton] at hi
          rw [getD_app_last _ _ _ _ (by omega), getD_app_last _ _ _ _ (by omega), if_neg (by omega)]
          by_cases e : i + 1 = l.length
          · rw [if_pos e]; exact hlast i (by omega)
          · rw [if_neg e]; exact ih.sort i (by omega)
        · rw [List.length_append, List.length_singleton]
          by_cases e : k = n
          · refine ⟨l.length, by omega, ?_⟩
            rw [getD_app_last _ _ _ _ (by omega), if_pos rfl]
            simp only []; omega
          · obtain ⟨i, hi, h1, h2⟩ := ih.cover k (by omega) hfk
            refine ⟨i, by omega, ?_⟩
            rw [getD_app_last _ _ _ _ (by omega), if_neg (by omega)]; exact ⟨h1, h2⟩
    · rw [if_neg hf]
      have hf' : f n = false := by simpa using hf
      refine ⟨fun i hi => ?_, ih.sort, fun k hk hfk => ?_⟩
      · have h1 := ih.each i hi
        have := h1.top
        refine ⟨h1.pos, by omega, h1.all, h1.ahead, fun h => ?_⟩
        by_cases e : (l.getD i default).1 + (l.getD i default).2 = n
        · rw [e]; exact hf'
        · exact h1.behind (by omega)
      · by_cases e : k = n
        · subst e; rw [hf'] at hfk; cases hfk
        · exact ih.cover k (by omega) hfk
theorem rowsL_len (f : Nat → Bool) : ∀ n, (rowsL f n).length ≤ n
  | 0 => by simp [rowsL]
  | n + 1 => by
    have := rowsL_len f n
    rw [rowsL]
    split
    · split
      · rw [List.length_set]; omega
      · rw [List.length_append, List.length_singleton]; omega
    · omega
def mayN (x : Nat) : Bool := decide (kN x = 0) || decide (kN x = 1 ∧ bN x = 0)
def rowsT (t : List Nat) : List (Nat × Nat) := if t.all okN then rowsL (fun k => mayN (t.getD k 0)) t.length else []
end Go.Proofs.YtnjifmecaeagaaaDoor
end
section
namespace Go.Proofs.YtnjifmecaeagaaaDoor
open Go.RowKit Go.ChangeShapes

theorem ret_b {a b : Bool} (h : a = b) : Ending.returned (.bool a) = .returned (.bool b) := by rw [h]
theorem ret_i {k : IntKind} {a b : Int} (h : a = b) : Ending.returned (.int k a) = .returned (.int k b) := by rw [h]
theorem bcell {W w1 : World} (hb : Below W.heap.size W w1) : (∀ b o, b < W.heap.size → w1.cell? ⟨b, o, none⟩ = W.cell? ⟨b, o, none⟩) ∧ (∀ b o, b < W.heap.size → w1.frozen? ⟨b, o, none⟩ = W.frozen? ⟨b, o, none⟩) :=
  ⟨fun b o h => hb.cell (p := ⟨b, o, none⟩) h, fun b o h => hb.frozen (p := ⟨b, o, none⟩) h⟩
theorem belowStep {B : Nat} {a b c : World} (h : Below B a b) (hB : B ≤ b.heap.size) (k : Below b.heap.size b c) : Below B a c ∧ B ≤ c.heap.size :=
  ⟨h.trans (k.mono hB), Nat.le_trans hB k.size⟩

/-- A row's end: the call has made new memory alone; its result holds none. -/
theorem post_of_below {H : Type} {enc : TypeId × Value → H} {P : Program} {f : Func} {s : ChangeSpec} {apart fresh handsOn again : Bool} {W W' : World} {args : Array Value} {v : Value} {ds gs : List (DataW H)} {before pa pv : List MemPlace}
    (hW : DataW.Whole enc P f.params.toList s.vars apart W args.toList ds gs before)
    (hres : ∀ (b : Nat) (sp : Nat → Bool) (hd : Bool), DataW.TrodAll enc P W' b sp hd f.resultTypes.toList (v.resultList f.resultTypes.size) (s.fn H (ds ++ gs)).results [])
    (hargs : ∀ sp : Nat → Bool, (∀ p ∈ before, sp p.block = true) → DataW.TrodAll enc P W' 0 sp true f.params.toList args.toList (s.fn H (ds ++ gs)).args pa)
    (hvars : ∀ sp : Nat → Bool, (∀ p ∈ before, sp p.block = true) → DataW.TrodVars enc P W' sp s.vars (s.fn H (ds ++ gs)).vars pv)
    (hps : before = pa ++ pv) (hb : Below W.heap.size W W')
    (hok : ∀ (j : Nat) (t : TypeId) (r : Value), f.resultTypes[j]? = some t → (v.resultList f.resultTypes.size)[j]? = some r → Value.okWide P W' .any 0 t r) :
    s.post enc P f apart fresh handsOn again W args v W' := by
  have hold : ∀ p ∈ before, (fun b => decide (b < W.heap.size)) p.block = true := fun p hp => by simpa using hW.lt p hp
  refine ⟨ds, gs, before, [], pa, pv, hW, hres _ _ _, hargs _ hold, hvars _ hold, World.keptBut_mono (fun p hp => ⟨hp, ?_⟩) (hb.frame _), fun _ => ?_⟩
  · rw [hps, List.mem_append] at hp
    exact Or.inr hp
  · have hlt := hW.lt
    obtain ⟨_, _, _, _, _, hz, hn⟩ := hW
    refine ⟨hok, _, _, ([] ++ pa) ++ pv, ⟨[] ++ pa, pv, trodAll_append (hargs _ (fun _ _ => rfl)) (hres _ _ _), hvars _ (fun _ _ => rfl), rfl, ?_, ?_⟩, ?_⟩
    · intro b off hp
      have hp' : MemPlace.cell b off ∈ before := by rw [hps]; simpa using hp
      rw [hb.frozen (p := ⟨b, off, none⟩) (hlt _ hp')]
      exact hz b off hp'
    · intro ha
      have := hn ha
      rw [hps] at this
      simpa using this
    · intro p hp _
      rw [hps]
      simpa using hp
end Go.Proofs.YtnjifmecaeagaaaDoor
end
section
set_option linter.unusedVariables false
set_option linter.unusedSimpArgs false
namespace Go.Proofs.YtnjifmecaeagaaaDoor
open Go.RowKit Go.ChangeShapes Go.WideShapes Go.Deep

section
variable {α : Type}

theorem fm_len {sz : Nat} {en : α → List Value} (hen : ∀ x, (en x).length = sz) (l : List α) : (l.flatMap en).length = l.length * sz := by
  induction l with
  | nil => simp
  | cons x l ih => rw [List.flatMap_cons, List.length_append, ih, hen, List.length_cons, Nat.add_mul, Nat.one_mul, Nat.add_comm]
/-- a list that a row of the call's own holds -/
def OwnE (e : TypeId) (sz : Nat) (en : α → List Value) (w : World) (base : Nat) (v : Value) (l : List α) : Prop := w.ownsRow base e sz v l.length (l.flatMap en)
theorem OwnE.keep {e : TypeId} {sz : Nat} {en : α → List Value} {w w1 : World} {base : Nat} {v : Value} {l : List α} (h : OwnE e sz en w base v l) (hb : Below w.heap.size w w1) : OwnE e sz en w1 base v l := by
  refine ⟨h.1, ?_⟩
  rcases h.2 with h2 | ⟨g, cap, cur, hv, hbg, hg, h1, h2, h3, h4⟩
  · exact .inl h2
  · exact .inr ⟨g, cap, cur, hv, hbg, by rw [hb.block g (Array.getElem?_eq_some_iff.1 hg).1]; exact hg, h1, h2, h3, h4⟩
theorem OwnE.mono {e : TypeId} {sz : Nat} {en : α → List Value} {w : World} {base b2 : Nat} {v : Value} {l : List α} (h : OwnE e sz en w base v l) (hb : b2 ≤ base) : OwnE e sz en w b2 v l := by
  refine ⟨h.1, ?_⟩
  rcases h.2 with h2 | ⟨g, cap, cur, hv, hbg, hg, h1, h2, h3, h4⟩
  · exact .inl h2
  · exact .inr ⟨g, cap, cur, hv, by omega, hg, h1, h2, h3, h4⟩
theorem OwnE.nil (e : TypeId) (sz : Nat) (en : α → List Value) (w : World) (base : Nat) : OwnE e sz en w base (.slice none 0 0) [] := World.ownsRow_nil _ _ _ _
theorem OwnE.lt {e : TypeId} {sz : Nat} {en : α → List Value} {w : World} {base : Nat} {v : Value} {l : List α} (h : OwnE e sz en w base v l) : ∀ k, v.ownBlock = some k → base ≤ k ∧ k < w.heap.size := World.ownsRow.lt h
theorem OwnE.kept {e : TypeId} {sz : Nat} {en : α → List Value} {w w1 : World} {base : Nat} {v : Value} {l : List α} {row : Option Nat} (h : OwnE e sz en w base v l) (hg : w.grownBy w1 row) (hne : v.ownBlock = none ∨ v.ownBlock ≠ row) : OwnE e sz en w1 base v l := World.ownsRow.kept h hg hne
theorem OwnE.drew {e : TypeId} {sz : Nat} {en : α → List Value} {w : World} {base : Nat} {v : Value} {l : List α} (h : OwnE e sz en w base v l) : OwnE e sz en w.drew base v l := h
theorem OwnE.alloc {e : TypeId} {sz : Nat} {en : α → List Value} {w : World} {base : Nat} {v : Value} {l : List α} (h : OwnE e sz en w base v l) (o : Obj) : OwnE e sz en (w.alloc o) base v l := h.keep ((Below.refl _ _).alloc (Nat.le_refl _) _)
theorem OwnE.far {e : TypeId} {sz : Nat} {en : α → List Value} {w : World} {base g o : Nat} {v : Value} {l : List α} (h : OwnE e sz en w base v l) (hg : g < base) (u : Value) : OwnE e sz en (w.setCell ⟨g, o, none⟩ u) base v l := by
  refine ⟨h.1, ?_⟩
  rcases h.2 with h2 | ⟨g', cap, cur, hv, hbg, hgc, h1, h2, h3, h4⟩
  · exact .inl h2
  · exact .inr ⟨g', cap, cur, hv, hbg, by rw [Below.heap_setCell w ⟨g, o, none⟩ u g' (by simp only []; omega)]; exact hgc, h1, h2, h3, h4⟩
theorem OwnE.form {e : TypeId} {sz : Nat} {en : α → List Value} {w : World} {base : Nat} {v : Value} {l : List α} (h : OwnE e sz en w base v l) (hp : 0 < l.length) : ∃ g cap, v = .slice (some ⟨g, 0, none⟩) l.length cap ∧ base ≤ g ∧ g < w.heap.size ∧ l.length ≤ cap := by
  rcases h.2 with ⟨_, hn⟩ | ⟨g, cap, cur, hv, hb, hg, h1, _⟩
  · omega
  · exact ⟨g, cap, hv, hb, (Array.getElem?_eq_some_iff.1 hg).1, h1⟩
/-- a literal's row -/
theorem OwnE.lit (e : TypeId) {sz : Nat} {en : α → List Value} (hen : ∀ x, (en x).length = sz) (w : World) (l : List α) (cs : Array Value) (hcs : cs = (l.flatMap en).toArray) (hl : l.length ≤ 100000) : OwnE e sz en (w.alloc (.cells cs e)) w.heap.size (.slice (some ⟨w.heap.size, 0, none⟩) l.length l.length) l := by
  subst hcs
  refine ⟨fm_len hen l, .inr ⟨w.heap.size, _, _, rfl, Nat.le_refl _, heap_alloc_new w _, Nat.le_refl _, by unfold maxLen; omega, ?_, ?_⟩⟩
  · rw [List.size_toArray, fm_len hen]
  · simp only [List.toList_toArray]; rw [← fm_len hen l, List.take_length]
/-- what a slice's type says of its elements -/
structure ElT (P : Program) (S e : TypeId) (sz by_ : Nat) (en : α → List Value) : Prop where
  und : P.underlying S = some (.slice e)
  info : ∃ i0 z, P.info? e = some i0 ∧ i0.zero = some z ∧ i0.size = sz ∧ i0.bytes = by_ ∧ z.cells.size = sz
  len : ∀ x, (en x).length = sz
  one : ∀ x, ∀ u ∈ en x, u.oneCell' = true
  pos : 0 < sz
  small : by_ ≤ 1000
theorem grown_below {w w1 : World} {base : Nat} {v : Value} (hg : w.grownBy w1 v.ownBlock) (hb : base ≤ w.heap.size) (hl : ∀ k, v.ownBlock = some k → base ≤ k) : Below base w w1 := (Below.refl base w).grown hg hb hl
theorem spot_none {W : World} {a : Addr} {v : Value} (h : W.cell? a = some v) : a.spot = none := by
  unfold World.cell? at h
  split at h
  · split at h
    · simp at h
    · rename_i hs
      simpa using hs
  · simp at h
end

section
variable {α : Type} [Inhabited α]

/-- v is a list in memory -/
def EL (sz : Nat) (en : α → List Value) (w : World) (v : Value) (l : List α) : Prop :=
  ∃ A cap, v = .slice A l.length cap ∧ (0 < l.length → ∃ g off, A = some ⟨g, off, none⟩ ∧ g < w.heap.size ∧ l.length ≤ cap ∧ ∀ i, i < l.length → ∀ j, j < sz → w.cell? ⟨g, off + i * sz + j, none⟩ = (en (l.getD i default))[j]?)
theorem EL.keep {sz : Nat} {en : α → List Value} {w w1 : World} {v : Value} {l : List α} (h : EL sz en w v l) (hb : Below w.heap.size w w1) : EL sz en w1 v l := by
  obtain ⟨A, cap, hv, h⟩ := h
  refine ⟨A, cap, hv, fun hl => ?_⟩
  obtain ⟨g, off, hA, hg, hc, hi⟩ := h hl
  exact ⟨g, off, hA, Nat.lt_of_lt_of_le hg hb.size, hc, fun i h j hj => by rw [(bcell hb).1 _ _ hg]; exact hi i h j hj⟩
theorem EL.nil (sz : Nat) (en : α → List Value) (w : World) (A : Option Addr) (cap : Nat) : EL sz en w (.slice A 0 cap) [] := ⟨A, cap, rfl, fun h => by simp at h⟩
theorem EL.form {sz : Nat} {en : α → List Value} {w : World} {v : Value} {l : List α} {n : Nat} (h : EL sz en w v l) (hn : l.length = n) : ∃ A cap, v = .slice A n cap ∧
    ∀ w1 i, Below w.heap.size w w1 → i < n → ∃ g off, A = some ⟨g, off, none⟩ ∧ n ≤ cap ∧ g < w.heap.size ∧ g < w1.heap.size ∧ ∀ j, j < sz → w1.cell? ⟨g, off + i * sz + j, none⟩ = (en (l.getD i default))[j]? := by
  obtain ⟨A, cap, hv, h⟩ := h
  refine ⟨A, cap, by rw [hv, hn], fun w1 i hb hi => ?_⟩
  obtain ⟨g, off, hA, hg, hc, hcell⟩ := h (by omega)
  refine ⟨g, off, hA, by omega, hg, Nat.lt_of_lt_of_le hg hb.size, fun j hj => ?_⟩
  rw [(bcell hb).1 _ _ hg]; exact hcell i (by omega) j hj
theorem fm_at {sz : Nat} {en : α → List Value} (hen : ∀ x, (en x).length = sz) : ∀ (l : List α) (i j : Nat), i < l.length → j < sz → (l.flatMap en)[i * sz + j]? = (en (l.getD i default))[j]?
  | [], i, j, hi, _ => by simp at hi
  | x :: l, 0, j, _, hj => by
    rw [List.flatMap_cons, Nat.zero_mul, Nat.zero_add, List.getElem?_append_left (by rw [hen]; exact hj)]; rfl
  | x :: l, i + 1, j, hi, hj => by
    rw [List.flatMap_cons, List.getElem?_append_right (by rw [hen, Nat.add_mul]; omega), hen]
    rw [show (i + 1) * sz + j - sz = i * sz + j by rw [Nat.add_mul]; omega]
    rw [fm_at hen l i j (by simpa using hi) hj]; rfl
theorem fm_set {sz : Nat} {en : α → List Value} (hen : ∀ x, (en x).length = sz) {x' : α} {u : Value} : ∀ (l : List α) (i j : Nat), i < l.length → j < sz → en x' = (en (l.getD i default)).set j u → (l.flatMap en).set (i * sz + j) u = (l.set i x').flatMap en
  | [], i, j, hi, _, _ => by simp at hi
  | x :: l, 0, j, _, hj, he => by
    rw [List.flatMap_cons, Nat.zero_mul, Nat.zero_add, List.set_append_left _ _ (by rw [hen]; exact hj), List.set_cons_zero, List.flatMap_cons, he]; rfl
  | x :: l, i + 1, j, hi, hj, he => by
    rw [List.flatMap_cons, List.set_append_right _ _ (by rw [hen, Nat.add_mul]; omega), hen, List.set_cons_succ, List.flatMap_cons]
    rw [show (i + 1) * sz + j - sz = i * sz + j by rw [Nat.add_mul]; omega]
    rw [fm_set hen l i j (by simpa using hi) hj he]
theorem OwnE.el {e : TypeId} {sz : Nat} {en : α → List Value} (hen : ∀ x, (en x).length = sz) {w : World} {base : Nat} {v : Value} {l : List α} (h : OwnE e sz en w base v l) : EL sz en w v l := by
  have h' := h
  rcases h.2 with ⟨hv, hn⟩ | ⟨g, cap, cur, hv, hb, hg, h1, h2, h3, h4⟩
  · have : l = [] := by simpa using hn
    subst this
    exact ⟨none, 0, hv, fun h => by simp at h⟩
  · subst hv
    refine ⟨some ⟨g, 0, none⟩, cap, rfl, fun _ => ⟨g, 0, rfl, (Array.getElem?_eq_some_iff.1 hg).1, h1, fun i hi j hj => ?_⟩⟩
    rw [Nat.zero_add]
    have hlt : i * sz + j < l.length * sz := by
      have : i * sz + sz ≤ l.length * sz := by rw [← Nat.succ_mul]; exact Nat.mul_le_mul_right _ hi
      omega
    rw [World.ownsRow.cellAt h' _ hlt, fm_at hen l i j hi hj]
theorem OwnE.set {e : TypeId} {sz : Nat} {en : α → List Value} (hen : ∀ x, (en x).length = sz) {w : World} {base g n cap i j : Nat} {l : List α} {x' : α} {u : Value} (h : OwnE e sz en w base (.slice (some ⟨g, 0, none⟩) n cap) l) (hn : l.length = n) (hi : i < n) (hj : j < sz) (he : en x' = (en (l.getD i default)).set j u) :
    OwnE e sz en (w.setCell ⟨g, i * sz + j, none⟩ u) base (.slice (some ⟨g, 0, none⟩) n cap) (l.set i x') := by
  unfold OwnE at h ⊢
  rw [hn] at h
  rw [List.length_set, hn, ← fm_set hen l i j (by omega) hj he]
  exact (World.ownsRow.stored h _ u).1
theorem OwnE.cell {e : TypeId} {sz : Nat} {en : α → List Value} (hen : ∀ x, (en x).length = sz) {w : World} {base g n cap : Nat} {l : List α} (h : OwnE e sz en w base (.slice (some ⟨g, 0, none⟩) n cap) l) (hn : l.length = n) {i j : Nat} (hi : i < n) (hj : j < sz) :
    w.cell? ⟨g, i * sz + j, none⟩ = (en (l.getD i default))[j]? ∧ w.frozen? ⟨g, i * sz + j, none⟩ = false := by
  unfold OwnE at h
  rw [hn] at h
  have hlt : i * sz + j < n * sz := by
    have : i * sz + sz ≤ n * sz := by rw [← Nat.succ_mul]; exact Nat.mul_le_mul_right _ hi
    omega
  exact ⟨by rw [World.ownsRow.cellAt h _ hlt, fm_at hen l i j (by omega) hj], h.frozenAt _⟩
theorem appE {P : Program} {S e : TypeId} {sz by_ : Nat} {en : α → List Value} (T : ElT P S e sz by_ en) {w : World} {base : Nat} {v u : Value} {l m : List α} (hown : OwnE e sz en w base v l) (ha : EL sz en w u m) (hb : base ≤ w.heap.size) (hsm : l.length ≤ 1000000) (hsm2 : m.length ≤ 1000000) :
    ∃ v' w', (Builtin.append_ #[S, S] S #[v, u]).run P w = .ok v' w' ∧ OwnE e sz en w' base v' (l ++ m) ∧ w.grownBy w' v.ownBlock ∧ (v'.ownBlock = v.ownBlock ∨ v'.ownBlock = some w.heap.size) ∧ (m ≠ [] → v' ≠ .slice none 0 0) := by
  obtain ⟨i0, z, hi, hz0, hz1, hz2, hz3⟩ := T.info
  have ht := T.und
  obtain ⟨A, cap, rfl, h⟩ := ha
  cases m with
  | nil =>
    refine ⟨v, w, ?_, by simpa using hown, ⟨rfl, rfl, rfl, Nat.le_refl _, fun _ _ _ => rfl⟩, .inl rfl, fun h => absurd rfl h⟩
    rcases hown.2 with ⟨rfl, _⟩ | ⟨g, cap', cur, rfl, _, _, hnc, _⟩
    · cases A <;> simp [Builtin.append_, run_underlying ht, sizeOf, typeInfo, hi, Builtin.lenOf, Builtin.firstCells, loadCells, loadCellsFrom, storeCells]
    · cases A <;> simp [Builtin.append_, run_underlying ht, sizeOf, typeInfo, hi, Builtin.lenOf, Builtin.firstCells, hnc, loadCells, loadCellsFrom, storeCells]
  | cons x m =>
    obtain ⟨g, off, rfl, hg, hc, hcell⟩ := h (by simp)
    have hby := T.small
    obtain ⟨v', w', hrun, k1, k2, k3, k4⟩ := run_append_own_at (P := P) w base S S e i0 z sz by_ ht hi hz0 hz1 hz2 hz3 T.pos v l.length _ hown ⟨g, off, none⟩ (x :: m).length cap ((x :: m).flatMap en) (fm_len T.len _)
      (fun j u hj => by
        have hj2 : j < (x :: m).length * sz := by rw [← fm_len T.len]; exact (List.getElem?_eq_some_iff.1 hj).1
        have hp := T.pos
        have hd : j / sz < (x :: m).length := (Nat.div_lt_iff_lt_mul hp).2 hj2
        have hm := Nat.mod_lt j hp
        have e1 : j / sz * sz + j % sz = j := by rw [Nat.mul_comm]; exact Nat.div_add_mod j sz
        have c0 := hcell (j / sz) hd (j % sz) hm
        have q0 := fm_at T.len (x :: m) (j / sz) (j % sz) hd hm
        rw [e1, hj] at q0
        rw [← q0, Nat.add_assoc, e1] at c0
        rw [add_plain]; exact c0) (by intro u hu; obtain ⟨y, _, hy⟩ := List.mem_flatMap.1 hu; exact T.one y u hy) (by unfold maxLen; omega) (by
          have : (l.length + (x :: m).length) * by_ ≤ 2000000 * 1000 := Nat.mul_le_mul (by omega) hby
          omega) hb
    refine ⟨v', w', hrun, ?_, k2, k4, fun _ h => by have := (k3.1 h).2; simp at this⟩
    unfold OwnE
    rw [List.length_append, List.flatMap_append]
    exact k1
/-- an argument that is a list: opened -/
theorem els_open {H : Type} {enc : TypeId × Value → H} {P : Program} {W : World} {t e : TypeId} {sz : Nat} {en : α → List Value} {Ok : α → Prop} (ht : P.underlying t = some (.slice e)) (hc : P.cellsOf e = sz) (hp : 0 < sz)
    (hel : ∀ fuel cs x, cs.length = sz → DataW.trod enc P W 0 (fun _ => true) true fuel e cs = some x → ∃ a : α, Ok a ∧ cs = en a)
    {ad : Option Addr} {len cap : Nat} {d : DataW H} {p : List MemPlace}
    (h : DataW.Trod enc P W 0 (fun _ => true) true t (.slice ad len cap) d p) : ∃ l : List α, (l.length ≤ 9223372036854775807 ∧ ∀ x ∈ l, Ok x) ∧ EL sz en W (.slice ad len cap) l := by
  obtain ⟨fuel, hf⟩ := h
  rcases open_slice ht hf with ⟨hcs, _⟩ | ⟨a, len', cap', m, n, D, Pl, hcs, hb, hl, hmx, hmm, _, hx⟩
  · simp [Value.cells] at hcs
    obtain ⟨rfl, rfl, rfl⟩ := hcs
    exact ⟨[], ⟨by simp, fun x hx => by simp at hx⟩, EL.nil _ _ _ _ _⟩
  · simp [Value.cells] at hcs
    obtain ⟨rfl, rfl, rfl⟩ := hcs
    simp only [if_true] at hmm
    subst hmm
    have hex : ∀ i, i < len → ∃ q : α, Ok q ∧ ∀ j, j < sz → W.cell? (a.add (i * sz + j)) = (en q)[j]? := fun i hil => by
      obtain ⟨cs', h1, h2⟩ := hx i (by omega)
      rw [hc] at h1
      obtain ⟨_, hlen, hcell⟩ := World.cells?_some h1
      obtain ⟨q, ho, rfl⟩ := hel _ _ _ hlen h2
      refine ⟨q, ho, fun j hj => ?_⟩
      have := hcell j hj
      rw [add_add] at this
      rw [this]
    obtain ⟨q, hq⟩ := choose_lt hex
    have hlen : ((List.range len).map q).length = len := by simp
    refine ⟨(List.range len).map q, ⟨by rw [hlen]; unfold maxLen at hmx; omega, fun x hx => ?_⟩, some a, _, by rw [hlen], fun h0 => ?_⟩
    · obtain ⟨i, hi', rfl⟩ := List.mem_map.1 hx
      exact (hq i (List.mem_range.1 hi')).1
    · rw [hlen] at h0 ⊢
      obtain ⟨cs0, h01, h02⟩ := hx 0 (by omega)
      rw [hc] at h01
      obtain ⟨_, hl0, hc0⟩ := World.cells?_some h01
      have hc00 := hc0 0 hp
      rw [List.getElem?_eq_getElem (by omega)] at hc00
      have hsp : a.spot = none := by
        have := spot_none hc00
        unfold Addr.add at this
        simpa using this
      obtain ⟨g, off, sp⟩ := a
      simp only at hsp
      subst hsp
      refine ⟨g, off, rfl, ?_, by omega, fun i hil j hj => ?_⟩
      · have := World.block_lt_of_cell? _ _ hc00
        simpa [add_plain] using this
      · have e : ((List.range len).map q).getD i default = q i := by
          rw [List.getD_eq_getElem?_getD, List.getElem?_map, List.getElem?_range hil]
          rfl
        rw [e, ← (hq i hil).2 j hj, add_plain, Nat.add_assoc]
end
theorem wpList_append_run {P : Program} {w w' : World} {ops : Array Oper} {rest : List Oper} {o : Oper} {a : Act} {Q : Exit → Act → World → Prop} (hg : o.guard = none) (s x : Operand) (t : TypeId)
    (hop : o.op = Op.call { callee := Callee.builtin Builtin.append, args := #[s, x], argTypes := #[t, t] }) (vs vx v : Value) (hs : a.eval s = vs) (hx : a.eval x = vx)
    (hrun : (Builtin.append_ #[t, t] o.type #[vs, vx]).run P w = .ok v w') (h : wpList P ops Q rest (a.put o.dst v) w') : wpList P ops Q (o :: rest) a w := by
  refine wpList_plain hg fun K hK => ?_
  unfold Oper.wp
  simp [execOp, hop, resolve, invoke, builtin, hs, hx, hrun, Result.andThen]
  exact hK _ _ h
end Go.Proofs.YtnjifmecaeagaaaDoor
end
section
set_option linter.unusedVariables false
set_option linter.unusedSimpArgs false
namespace Go.Proofs.YtnjifmecaeagaaaDoor
open Go.RowKit Go.ChangeShapes Go.WideShapes Go.Deep

/-- v is a list of numbers of a kind in memory -/
def KL (K : IntKind) (w : World) (v : Value) (l : List Nat) : Prop :=
  ∃ A cap, v = .slice A l.length cap ∧ (0 < l.length → ∃ g off, A = some ⟨g, off, none⟩ ∧ g < w.heap.size ∧ l.length ≤ cap ∧ ∀ i, i < l.length → w.cell? ⟨g, off + i, none⟩ = some (.int K (l.getD i 0 : Nat)))
theorem KL.keep {K : IntKind} {w w1 : World} {v : Value} {l : List Nat} (h : KL K w v l) (hb : Below w.heap.size w w1) : KL K w1 v l := by
  obtain ⟨A, cap, hv, h⟩ := h
  refine ⟨A, cap, hv, fun hl => ?_⟩
  obtain ⟨g, off, hA, hg, hc, hi⟩ := h hl
  exact ⟨g, off, hA, Nat.lt_of_lt_of_le hg hb.size, hc, fun i h => by rw [(bcell hb).1 _ _ hg]; exact hi i h⟩
theorem KL.form {K : IntKind} {w : World} {v : Value} {l : List Nat} {n : Nat} (h : KL K w v l) (hn : l.length = n) : ∃ A cap, v = .slice A n cap ∧
    ∀ w1 i, Below w.heap.size w w1 → i < n → ∃ g off, A = some ⟨g, off, none⟩ ∧ n ≤ cap ∧ g < w1.heap.size ∧ w1.cell? ⟨g, off + i, none⟩ = some (.int K (l.getD i 0 : Nat)) := by
  obtain ⟨A, cap, hv, h⟩ := h
  refine ⟨A, cap, by rw [hv, hn], fun w1 i hb hi => ?_⟩
  obtain ⟨g, off, hA, hg, hc, hcell⟩ := h (by omega)
  refine ⟨g, off, hA, by omega, Nat.lt_of_lt_of_le hg hb.size, ?_⟩
  rw [(bcell hb).1 _ _ hg]; exact hcell i (by omega)
def BL (l : List Nat) : Prop := ∀ x ∈ l, x < 256
theorem BL.at {l : List Nat} (h : BL l) (i : Nat) (hi : i < l.length) : l.getD i 0 < 256 := by
  rw [List.getD_eq_getElem?_getD, List.getElem?_eq_getElem hi]
  exact h _ (List.getElem_mem hi)
set_option maxHeartbeats 1000000 in
theorem words_any (v u : Value) (l m : List Nat) (w : World) (hlen : l.length ≤ 1000000) (hv : KL .u64 w v l) (hu : KL .u64 w u m) :
    Calls Tryd.prog 51 #[v, u] w fun e w' => e = .returned (.bool (decide (l = m))) ∧ Below w.heap.size w w' := by
  obtain ⟨n, hn⟩ : ∃ n, l.length = n := ⟨_, rfl⟩
  obtain ⟨n2, hn2⟩ : ∃ n, m.length = n := ⟨_, rfl⟩
  obtain ⟨A, cap, rfl, hC⟩ := hv.form hn
  obtain ⟨A2, cap2, rfl, hC2⟩ := hu.form hn2
  have hne := Lib.hid (fun (h : ¬ l = m) => show decide (l = m) = false from decide_eq_false h)
  by_cases hnn : n = n2
  · subst hnn
    have hyes := Lib.hid (fun (h : ∀ j, j < n → l.getD j 0 = m.getD j 0) => show decide (l = m) = true from by
      refine decide_eq_true ?_
      apply List.ext_getElem (by omega)
      intro i h1 h2
      have := h i (by omega)
      rwa [List.getD_eq_getElem?_getD, List.getD_eq_getElem?_getD, List.getElem?_eq_getElem h1, List.getElem?_eq_getElem h2] at this)
    replace hC := Lib.hid hC
    replace hC2 := Lib.hid hC2
    have hlen' : n ≤ 1000000 := by omega
    clear hlen
    replace hn := Lib.hid hn
    replace hn2 := Lib.hid hn2
    go_enter Tryd.func51, Tryd.ntmps51
    go_wp2_with fail
    go_loopw [5] (fun i wr => ∃ k : Nat, k ≤ n ∧ i = .int .i64 k ∧ Hid (∀ j, j < k → l.getD j 0 = m.getD j 0) ∧ Below w.heap.size w wr) (fun i _ => n + 1 - (intOf i).toNat)
    case atStart => exact ⟨0, Nat.zero_le _, rfl, (fun j hj => by omega), Below.refl _ _⟩
    case round =>
      obtain ⟨k, hk, rfl, hF, hB⟩ := hrel
      by_cases hlt : k < n
      · obtain ⟨g, off, rfl, hcap, hg, c0⟩ := hC.out wr k hB hlt
        obtain ⟨g2, off2, rfl, hcap2, hg2, d0⟩ := hC2.out wr k hB hlt
        have hlt' : (k : Int) < (n : Int) := by omega
        have hF2 := Lib.hid (fun (h : l.getD k 0 = m.getD k 0) j (hj : j < k + 1) => show l.getD j 0 = m.getD j 0 from by
          by_cases e : j = k
          · subst e; exact h
          · exact hF.out j (by omega))
        have hF3 := Lib.hid (fun (h : ¬ l.getD k 0 = m.getD k 0) => show decide (l = m) = false from decide_eq_false (fun q => h (by rw [q])))
        generalize l.getD k 0 = a at *
        generalize m.getD k 0 = c at *
        by_cases hac : a = c
        · subst hac
          have hR := Lib.hid (hF2.out rfl)
          go_wp2_with fail
          go_region
          all_goals (try go_wp2_with fail)
          go_roundw
          case rel => exact ⟨k + 1, by omega, by go_num, hR, hB.drew⟩
          case measure => simp [intOf]; omega
        · have hR := Lib.hid (hF3.out hac)
          have f1 : ((a : Int) == (c : Int)) = false := by rw [beq_eq_false_iff_ne]; omega
          have f2 : ((a : Int) != (c : Int)) = true := by rw [bne_iff_ne]; omega
          go_wp2_with fail
          go_region
          all_goals (try go_wp2_with fail)
          all_goals
            go_ret
            exact ⟨by rw [hR.out]; rfl, hB.drew⟩
      · obtain rfl : k = n := by omega
        have hR := Lib.hid (hyes.out hF.out)
        go_wp2_with fail
        go_ret
        exact ⟨by rw [hR.out]; rfl, hB⟩
  · have hR := Lib.hid (hne.out (fun h => hnn (by rw [← hn, ← hn2, h])))
    have f1 : ((n : Int) != (n2 : Int)) = true := by rw [bne_iff_ne]; omega
    clear hn hn2 hv hu hC hC2 hnn
    go_enter Tryd.func51, Tryd.ntmps51
    go_wp2_with fail
    go_ret
    exact ⟨by rw [hR.out]; rfl, Below.refl _ _⟩
theorem infoU64 : (Tryd.prog.info? 27).map (fun i => (i.zero, i.size, i.bytes)) = some (some (.int .u64 0), 1, 8) := by kernel_rfl
theorem cell_new1 (W : World) (v : Value) (t : TypeId) : (W.alloc (.cells #[v] t)).cell? ⟨W.heap.size, 0, none⟩ = some v := by simp [go_sem]
theorem appU {w : World} {base g k y : Nat} {v : Value} {xs : List Value} (hown : w.ownsRow base 27 1 v k xs) (hx : w.cell? ⟨g, 0, none⟩ = some (.int .u64 y)) (hb : base ≤ w.heap.size) (hsm : k ≤ 1000000) :
    ∃ v' w', (Builtin.append_ #[22, 22] 22 #[v, .slice (some ⟨g, 0, none⟩) 1 1]).run Tryd.prog w = .ok v' w' ∧ w'.ownsRow base 27 1 v' (k + 1) (xs ++ [.int .u64 y]) ∧ w.grownBy w' v.ownBlock ∧ (v'.ownBlock = v.ownBlock ∨ v'.ownBlock = some w.heap.size) := by
  obtain ⟨i0, hi, hz0, hz1, hz2⟩ := info_parts infoU64
  obtain ⟨v', w', hrun, h1, h2, _, h4⟩ := run_append_own_at (P := Tryd.prog) w base 22 22 27 i0 (.int .u64 0) 1 8 Tryd.underlying22 hi hz0 hz1 hz2 rfl (by decide) v k xs hown ⟨g, 0, none⟩ 1 1 [.int .u64 y] rfl
    (fun j u hj => by
      match j, hj with
      | 0, hj => simp only [List.getElem?_cons_zero] at hj; rw [← hj]; simpa [Addr.add] using hx
      | j + 1, hj => simp at hj) (by simp [Value.oneCell']) (by unfold maxLen; omega) (by omega) hb
  exact ⟨v', w', hrun, h1, h2, h4⟩
def OwnU (w : World) (base : Nat) (v : Value) (l : List Nat) : Prop := w.ownsRow base 27 1 v l.length (l.map fun x : Nat => Value.int .u64 x)
theorem OwnU.kl {w : World} {base : Nat} {v : Value} {l : List Nat} (h : OwnU w base v l) : KL .u64 w v l := by
  have h' := h
  rcases h.2 with ⟨hv, hn⟩ | ⟨g, cap, cur, hv, hb, hg, h1, h2, h3, h4⟩
  · have : l = [] := by simpa using hn
    subst this
    exact ⟨none, 0, hv, fun h => by simp at h⟩
  · subst hv
    refine ⟨some ⟨g, 0, none⟩, cap, rfl, fun _ => ⟨g, 0, rfl, (Array.getElem?_eq_some_iff.1 hg).1, h1, fun i hi => ?_⟩⟩
    rw [Nat.zero_add]
    rw [World.ownsRow.cellAt h' i (by omega)]
    simp [List.getD_eq_getElem?_getD, List.getElem?_eq_getElem hi]
theorem OwnU.mono {w : World} {base b2 : Nat} {v : Value} {l : List Nat} (h : OwnU w base v l) (hb : b2 ≤ base) : OwnU w b2 v l := by
  refine ⟨h.1, ?_⟩
  rcases h.2 with h2 | ⟨g, cap, cur, hv, hbg, hg, h1, h2, h3, h4⟩
  · exact .inl h2
  · exact .inr ⟨g, cap, cur, hv, by omega, hg, h1, h2, h3, h4⟩
theorem OwnU.keep {w w1 : World} {base : Nat} {v : Value} {l : List Nat} (h : OwnU w base v l) (hb : Below w.heap.size w w1) : OwnU w1 base v l := by
  refine ⟨h.1, ?_⟩
  rcases h.2 with h2 | ⟨g, cap, cur, hv, hbg, hg, h1, h2, h3, h4⟩
  · exact .inl h2
  · exact .inr ⟨g, cap, cur, hv, hbg, by rw [hb.block g (Array.getElem?_eq_some_iff.1 hg).1]; exact hg, h1, h2, h3, h4⟩
theorem KL.lit (w : World) (l : List Nat) (hl : l.length ≤ 1000) : KL .u64 (w.alloc (.cells (l.map fun x : Nat => Value.int .u64 x).toArray (27 : Nat))) (.slice (some ⟨w.heap.size, 0, none⟩) l.length l.length) l := by
  have := World.ownsRow_lit (base := w.heap.size) (e := 27) (size := 1) w (l.map fun x : Nat => Value.int .u64 x).toArray l.length (Nat.le_refl _) (by unfold maxLen; omega) (by simp)
  exact OwnU.kl (base := w.heap.size) (by simpa [OwnU] using this)
theorem appW {w : World} {base : Nat} {v u : Value} {l m : List Nat} (hown : OwnU w base v l) (ha : KL .u64 w u m) (hb : base ≤ w.heap.size) (hsm : l.length ≤ 1000000) (hsm2 : m.length ≤ 1000000) :
    ∃ v' w', (Builtin.append_ #[22, 22] 22 #[v, u]).run Tryd.prog w = .ok v' w' ∧ OwnU w' base v' (l ++ m) ∧ Below base w w' := by
  obtain ⟨i0, hi, hz0, hz1, hz2⟩ := info_parts infoU64
  have ht : Tryd.prog.underlying 22 = some (.slice 27) := Tryd.underlying22
  obtain ⟨A, cap, rfl, h⟩ := ha
  cases m with
  | nil =>
    refine ⟨v, w, ?_, by simpa using hown, Below.refl _ _⟩
    rcases hown.2 with ⟨rfl, _⟩ | ⟨g, cap', cur, rfl, _, _, hnc, _⟩
    · cases A <;> simp [Builtin.append_, run_underlying ht, sizeOf, typeInfo, hi, Builtin.lenOf, Builtin.firstCells, loadCells, loadCellsFrom, storeCells]
    · cases A <;> simp [Builtin.append_, run_underlying ht, sizeOf, typeInfo, hi, Builtin.lenOf, Builtin.firstCells, hnc, loadCells, loadCellsFrom, storeCells]
  | cons x m =>
    obtain ⟨g, off, rfl, hg, hc, hcell⟩ := h (by simp)
    obtain ⟨v', w', hrun, k1, k2, _, k4⟩ := run_append_own_at (P := Tryd.prog) w base 22 22 27 i0 (.int .u64 0) 1 8 Tryd.underlying22 hi hz0 hz1 hz2 rfl (by decide) v l.length _ hown ⟨g, off, none⟩ (x :: m).length cap ((x :: m).map fun x : Nat => Value.int .u64 x) (by simp)
      (fun j u hj => by
        have hj2 : j < (x :: m).length := by have := (List.getElem?_eq_some_iff.1 hj).1; simpa using this
        have c0 := hcell j hj2
        rw [List.getElem?_map, List.getElem?_eq_getElem hj2] at hj
        rw [List.getD_eq_getElem?_getD, List.getElem?_eq_getElem hj2] at c0
        simp only [Option.map_some, Option.some.injEq] at hj
        rw [← hj]
        rw [add_plain]; exact c0) (by intro u hu; obtain ⟨y, _, rfl⟩ := List.mem_map.1 hu; rfl) (by unfold maxLen; omega) (by omega) hb
    refine ⟨v', w', hrun, ?_, (Below.refl base w).grown k2 hb (fun j hj => (World.ownsRow.lt hown j hj).1)⟩
    unfold OwnU
    rw [List.length_append, List.map_append]
    exact k1
theorem joinW {w : World} {u1 u2 : Value} {l m : List Nat} (h1 : KL .u64 w u1 l) (h2 : KL .u64 w u2 m) (l1 : l.length ≤ 100000) (l2 : m.length ≤ 100000) :
    ∃ v1 w1 v2 w2, (Builtin.append_ #[22, 22] 22 #[.slice (some ⟨w.heap.size, 0, none⟩) 0 0, u1]).run Tryd.prog (w.alloc (.cells #[] (27 : Nat))) = .ok v1 w1 ∧
      (Builtin.append_ #[22, 22] 22 #[v1, u2]).run Tryd.prog w1 = .ok v2 w2 ∧ KL .u64 w2 v2 (l ++ m) ∧ Below w.heap.size w w2 := by
  have hO : OwnU (w.alloc (.cells #[] (27 : Nat))) w.heap.size (.slice (some ⟨w.heap.size, 0, none⟩) 0 0) [] := World.ownsRow_lit (base := w.heap.size) (e := 27) (size := 1) w #[] 0 (Nat.le_refl _) (by unfold maxLen; omega) rfl
  have hB : Below w.heap.size w (w.alloc (.cells #[] (27 : Nat))) := (Below.refl _ _).alloc (Nat.le_refl _) _
  obtain ⟨v1, w1, r1, o1, b1⟩ := appW hO (h1.keep hB) hB.size (by simp) (by omega)
  have hB1 := hB.trans b1
  obtain ⟨v2, w2, r2, o2, b2⟩ := appW o1 (h2.keep hB1) hB1.size (by simp; omega) (by omega)
  exact ⟨v1, w1, v2, w2, r1, r2, by simpa using o2.kl, hB1.trans b2⟩
/-- one list behind a new empty row -/
theorem newW {w : World} {u : Value} {l : List Nat} (h1 : KL .u64 w u l) (l1 : l.length ≤ 100000) :
    ∃ v1 w1, (Builtin.append_ #[22, 22] 22 #[.slice (some ⟨w.heap.size, 0, none⟩) 0 0, u]).run Tryd.prog (w.alloc (.cells #[] (27 : Nat))) = .ok v1 w1 ∧ OwnU w1 w.heap.size v1 l ∧ Below w.heap.size w w1 := by
  have hO : OwnU (w.alloc (.cells #[] (27 : Nat))) w.heap.size (.slice (some ⟨w.heap.size, 0, none⟩) 0 0) [] := World.ownsRow_lit (base := w.heap.size) (e := 27) (size := 1) w #[] 0 (Nat.le_refl _) (by unfold maxLen; omega) rfl
  have hB : Below w.heap.size w (w.alloc (.cells #[] (27 : Nat))) := (Below.refl _ _).alloc (Nat.le_refl _) _
  obtain ⟨v1, w1, r1, o1, b1⟩ := appW hO (h1.keep hB) hB.size (by simp) (by omega)
  exact ⟨v1, w1, r1, by simpa using o1, hB.trans b1⟩
theorem zerosL (k : Nat) : (Builtin.zeroCells (Value.int .u64 0).cells k).toList = (List.replicate k 0).map fun x : Nat => Value.int .u64 x := by
  unfold Builtin.zeroCells
  simp [Value.cells, Nat.mod_one]
  apply List.ext_getElem
  · simp
  · intro i h1 h2
    simp [Nat.mod_one]
set_option maxHeartbeats 1000000 in
theorem appZ {w : World} {base k : Nat} {v : Value} {xs : List Nat} (hown : OwnU w base v xs) (hsm : xs.length + k ≤ 1000000) (hk : 0 < k) (hbase : base ≤ w.heap.size) :
    ∃ v1 w1, (Builtin.append_ #[22, 3] 22 #[v, .int .i64 k]).run Tryd.prog w = .ok v1 w1 ∧ OwnU w1 base v1 (xs ++ List.replicate k 0) ∧ Below base w w1 := by
  obtain ⟨i0, hi, hz0, hz1, hz2⟩ := info_parts infoU64
  have ht : Tryd.prog.underlying 22 = some (.slice 27) := Tryd.underlying22
  have htn : Tryd.prog.underlying 3 = some (.int .i64) := Tryd.underlying3
  have hw : IntKind.i64.wrap (k : Int) = k := by rw [IntKind.wrap_i64]; omega
  have hold0 := fun (g : Nat) (hg : v.ownBlock = some g) => World.ownsRow.cells hown hg
  unfold OwnU
  obtain ⟨n, hn⟩ : ∃ n, xs.length = n := ⟨_, rfl⟩
  rw [List.length_append, List.map_append, List.length_replicate]
  rw [hn] at hsm ⊢
  unfold OwnU at hown
  rw [hn] at hown
  obtain ⟨hl0, hr⟩ := hown
  have new : ∀ (A : Option Addr) (cap : Nat), cap < n + k → (Builtin.firstCells i0.size n (.slice A n cap)).run Tryd.prog w.drew = .ok (xs.map fun x : Nat => Value.int .u64 x).toArray w.drew →
      ∃ v1 w1, (Builtin.append_ #[22, 3] 22 #[.slice A n cap, .int .i64 k]).run Tryd.prog w = .ok v1 w1 ∧ w1.ownsRow base 27 1 v1 (n + k) ((xs.map fun x : Nat => Value.int .u64 x) ++ ((List.replicate k 0).map fun x : Nat => Value.int .u64 x)) ∧ Below base w w1 := by
    intro A cap hge hfc
    have hrun := Lib.run_append_grow_zeros (P := Tryd.prog) w 22 3 22 27 i0 (.int .u64 0) .i64 .i64 ht htn hi hz0 A n cap (xs.map fun x : Nat => Value.int .u64 x) hfc k (by omega) (by rw [hz1]; omega) hge (by omega) (by rw [hz2]; omega) (growslice_fits hge (by rw [hz2]; omega))
    have hcg : n + k ≤ grownCap w (n + k) cap 27 := grownCap_ge w (n + k) cap _
    have hcm : grownCap w (n + k) cap 27 ≤ maxLen := grownCap_le_maxLen w (n + k) cap _ (by unfold maxLen; omega)
    refine ⟨_, _, hrun, ⟨by simp [hn], .inr ⟨w.heap.size, _, _, rfl, hbase, heap_alloc_new w.drew _, hcg, hcm, ?_, ?_⟩⟩, ((Below.refl _ _).drew.alloc (Nat.le_refl _) _).mono hbase⟩
    · simp [size_zeroCells, Value.cells, hn]; omega
    · simp only [Array.toList_append, zerosL, List.append_assoc, Nat.mul_one]
      rw [← List.append_assoc]
      exact List.take_left' (by simp [hn])
  rcases hr with ⟨rfl, h0⟩ | ⟨g, cap, cur, rfl, hbg, hg, h1, h2, h3, h4⟩
  · have hx : xs = [] := List.eq_nil_of_length_eq_zero (by rw [hn]; simpa using h0)
    subst hx
    simp at hn
    subst hn
    exact new none 0 (by omega) (by simp [Builtin.firstCells])
  rw [Nat.mul_one] at h3 h4
  by_cases hroom : n + k ≤ cap
  · have hst := run_storeCells_at (P := Tryd.prog) g n 27 (List.replicate k (Value.int .u64 0)) 0 cur w hg (by simp; omega) (by intro v hv; rw [List.eq_of_mem_replicate hv]; rfl)
    rw [Nat.add_zero, List.length_replicate] at hst
    have hns : ¬ (k * i0.size = 0) := by rw [hz1]; omega
    have hneg : ¬ ((k : Int) < 0) := by omega
    have hk0 : ¬ (k = 0) := by omega
    have h48 : ¬ (281474976710656 < (k : Int) * (i0.bytes : Int)) := by rw [hz2]; omega
    have hzl : (Builtin.zeroCells (Value.int .u64 0).cells k).toList = List.replicate k (Value.int .u64 0) := by rw [zerosL]; simp
    have hrow : (w.setRow g (cur.toList.take n ++ List.replicate k (Value.int .u64 0) ++ cur.toList.drop (n + k)).toArray).heap[g]? = some (.cells (cur.toList.take n ++ List.replicate k (Value.int .u64 0) ++ cur.toList.drop (n + k)).toArray 27 (0, 0)) := setRow_heap w g _ _ _ _ hg
    refine ⟨.slice (some ⟨g, 0, none⟩) (n + k) cap, _, ?_, ⟨by simp [hn], .inr ⟨g, cap, _, rfl, hbg, hrow, hroom, h2, ?_, ?_⟩⟩, below_setRow (Below.refl _ _) hbg _⟩
    · simp [Builtin.append_, run_underlying ht, run_underlying htn, sizeOf, typeInfo, zeroValue, hi, hz0, asInt, asIntOf, hw, hroom, hneg, h48, hns, hk0, hzl]
      rw [hz1, Nat.mul_one, show (⟨g, 0, none⟩ : Addr).add n = ⟨g, n, none⟩ by rw [Addr.add_lit, Nat.zero_add], hst]
      simp [Result.andThen]
    · simp; omega
    · rw [Nat.mul_one, h4]
      simp [List.take_append, hn, List.take_of_length_le]
  · exact new _ cap (by omega) (run_firstCells_some (P := Tryd.prog) w.drew i0.size n ⟨g, 0, none⟩ n cap (xs.map fun x : Nat => Value.int .u64 x) (by simp [hn, hz1]) (fun j v hj => hold0 g rfl j v hj))
theorem wpList_append_run2 {P : Program} {w w' : World} {ops : Array Oper} {rest : List Oper} {o : Oper} {a : Act} {Q : Exit → Act → World → Prop} (hg : o.guard = none) (s x : Operand) (t tn : TypeId)
    (hop : o.op = Op.call { callee := Callee.builtin Builtin.append, args := #[s, x], argTypes := #[t, tn] }) (vs vx v : Value) (hs : a.eval s = vs) (hx : a.eval x = vx)
    (hrun : (Builtin.append_ #[t, tn] o.type #[vs, vx]).run P w = .ok v w') (h : wpList P ops Q rest (a.put o.dst v) w') : wpList P ops Q (o :: rest) a w := by
  refine wpList_plain hg fun K hK => ?_
  unfold Oper.wp
  simp [execOp, hop, resolve, invoke, builtin, hs, hx, hrun, Result.andThen]
  exact hK _ _ h
theorem KL.take {K : IntKind} {w : World} {A : Option Addr} {n cap : Nat} {l : List Nat} (h : KL K w (.slice A n cap) l) (t : Nat) (ht : t ≤ l.length) : KL K w (.slice A t cap) (l.take t) := by
  obtain ⟨A', cap', hv, h⟩ := h
  cases hv
  refine ⟨A, cap, by rw [List.length_take, Nat.min_eq_left ht], fun hl => ?_⟩
  rw [List.length_take, Nat.min_eq_left ht] at hl
  obtain ⟨g, off, hA, hg, hc, hi⟩ := h (by omega)
  refine ⟨g, off, hA, hg, by rw [List.length_take]; omega, fun i h => ?_⟩
  rw [List.length_take] at h
  rw [hi i (by omega), List.getD_eq_getElem?_getD, List.getD_eq_getElem?_getD, List.getElem?_take_of_lt (by omega)]
theorem run_slice_to {P : Program} {ty e : TypeId} {i0 : TypeInfo} (hu : P.underlying ty = some (.slice e)) (hi : P.info? e = some i0) (A : Option Addr) (n cap t : Nat) (h : t ≤ cap) (w : World) :
    (Instr.slice ty (.slice A n cap) none (some (.int .i64 (t : Int))) none).run P w = .ok (.slice A t cap) w := by
  have h1 : (t : Int) ≤ (cap : Int) := by omega
  have h2 : (0 : Int) ≤ (t : Int) := by omega
  simp [Instr.slice, run_underlying hu, Instr.sliceBounds, Instr.sliceBound, asIntOf, sizeOf, typeInfo, hi, h2, go_sem]
  exact fun h' => by omega
def WL (l : List Nat) : Prop := ∀ x ∈ l, x < 18446744073709551616
theorem wordsK_open {H : Type} {enc : TypeId × Value → H} {P : Program} {W : World} {t e : TypeId} (ht : P.underlying t = some (.slice e)) (he : P.underlying e = some (.int .u64)) (hc : P.cellsOf e = 1) {ad : Option Addr} {len cap : Nat} {d : DataW H} {p : List MemPlace}
    (h : DataW.Trod enc P W 0 (fun _ => true) true t (.slice ad len cap) d p) : ∃ l : List Nat, WL l ∧ KL .u64 W (.slice ad len cap) l := by
  obtain ⟨fuel, hf⟩ := h
  rcases open_ints ht he hc hf with ⟨hcs, _⟩ | ⟨a, len', cap', zs, hcs, _, hl, hm, hz, _, hcell, hwz⟩
  · simp [Value.cells] at hcs
    obtain ⟨rfl, rfl, rfl⟩ := hcs
    exact ⟨[], fun x hx => by simp at hx, none, 0, rfl, fun h => by simp at h⟩
  · simp [Value.cells] at hcs
    obtain ⟨rfl, rfl, rfl⟩ := hcs
    simp only [if_true] at hz
    have hb : ∀ z ∈ zs, 0 ≤ z ∧ z ≤ 18446744073709551615 := fun z hz => bounds_u64 (hwz z hz)
    have hlen : ((zs.take len).map Int.toNat).length = len := by simp; omega
    refine ⟨(zs.take len).map Int.toNat, fun x hx => ?_, some a, cap, by rw [hlen], fun h0 => ?_⟩
    · obtain ⟨z, hz1, rfl⟩ := List.mem_map.1 hx
      have := hb z (List.mem_of_mem_take hz1)
      omega
    · rw [hlen] at h0 ⊢
      have hc0 := hcell 0 (by omega)
      have hsp : a.spot = none := by
        have := spot_none hc0
        unfold Addr.add at this
        simpa using this
      obtain ⟨g, off, sp⟩ := a
      simp only at hsp
      subst hsp
      refine ⟨g, off, rfl, ?_, by omega, fun i hil => ?_⟩
      · have := World.block_lt_of_cell? _ _ hc0
        simpa [add_plain] using this
      · have := hcell i (by omega)
        rw [add_plain] at this
        rw [this]
        have hzi : i < zs.length := by omega
        have e1 : ((zs.take len).map Int.toNat).getD i 0 = (zs[i]).toNat := by
          rw [List.getD_eq_getElem?_getD, List.getElem?_map, List.getElem?_take, if_pos hil, List.getElem?_eq_getElem hzi]
          rfl
        have e2 : zs.getD i 0 = zs[i] := by rw [List.getD_eq_getElem?_getD, List.getElem?_eq_getElem hzi]; rfl
        rw [e1, e2, Int.toNat_of_nonneg (hb _ (List.getElem_mem hzi)).1]
theorem bytes_open {H : Type} {enc : TypeId × Value → H} {P : Program} {W : World} {t e : TypeId} (ht : P.underlying t = some (.slice e)) (he : P.underlying e = some (.int .u8)) (hc : P.cellsOf e = 1) {ad : Option Addr} {len cap : Nat} {d : DataW H} {p : List MemPlace}
    (h : DataW.Trod enc P W 0 (fun _ => true) true t (.slice ad len cap) d p) : ∃ l : List Nat, BL l ∧ KL .u8 W (.slice ad len cap) l := by
  obtain ⟨fuel, hf⟩ := h
  rcases open_ints ht he hc hf with ⟨hcs, _⟩ | ⟨a, len', cap', zs, hcs, _, hl, hm, hz, _, hcell, hwz⟩
  · simp [Value.cells] at hcs
    obtain ⟨rfl, rfl, rfl⟩ := hcs
    exact ⟨[], fun x hx => by simp at hx, none, 0, rfl, fun h => by simp at h⟩
  · simp [Value.cells] at hcs
    obtain ⟨rfl, rfl, rfl⟩ := hcs
    simp only [if_true] at hz
    have hb : ∀ z ∈ zs, 0 ≤ z ∧ z ≤ 255 := fun z hz => bounds_u8 (hwz z hz)
    have hlen : ((zs.take len).map Int.toNat).length = len := by simp; omega
    refine ⟨(zs.take len).map Int.toNat, fun x hx => ?_, some a, cap, by rw [hlen], fun h0 => ?_⟩
    · obtain ⟨z, hz1, rfl⟩ := List.mem_map.1 hx
      have := hb z (List.mem_of_mem_take hz1)
      omega
    · rw [hlen] at h0 ⊢
      have hc0 := hcell 0 (by omega)
      have hsp : a.spot = none := by
        have := spot_none hc0
        unfold Addr.add at this
        simpa using this
      obtain ⟨g, off, sp⟩ := a
      simp only at hsp
      subst hsp
      refine ⟨g, off, rfl, ?_, by omega, fun i hil => ?_⟩
      · have := World.block_lt_of_cell? _ _ hc0
        simpa [add_plain] using this
      · have := hcell i (by omega)
        rw [add_plain] at this
        rw [this]
        have hzi : i < zs.length := by omega
        have e1 : ((zs.take len).map Int.toNat).getD i 0 = (zs[i]).toNat := by
          rw [List.getD_eq_getElem?_getD, List.getElem?_map, List.getElem?_take, if_pos hil, List.getElem?_eq_getElem hzi]
          rfl
        have e2 : zs.getD i 0 = zs[i] := by rw [List.getD_eq_getElem?_getD, List.getElem?_eq_getElem hzi]; rfl
        rw [e1, e2, Int.toNat_of_nonneg (hb _ (List.getElem_mem hzi)).1]
/-- A row's end: the call has made new memory alone; its result holds none; the arguments read as they did (shown once for whatever blocks are spared). -/
theorem post_of_below_any {H : Type} {enc : TypeId × Value → H} {P : Program} {f : Func} {s : ChangeSpec} {apart fresh handsOn again : Bool} {W W' : World} {args : Array Value} {v : Value} {ds gs : List (DataW H)} {before pa pv : List MemPlace}
    (hW : DataW.Whole enc P f.params.toList s.vars apart W args.toList ds gs before)
    (hres : ∀ (b : Nat) (sp : Nat → Bool) (hd : Bool), DataW.TrodAll enc P W' b sp hd f.resultTypes.toList (v.resultList f.resultTypes.size) (s.fn H (ds ++ gs)).results [])
    (hargs : ∀ sp : Nat → Bool, (∀ p ∈ before, sp p.block = true) → DataW.TrodAll enc P W' 0 sp true f.params.toList args.toList (s.fn H (ds ++ gs)).args pa)
    (hvars : ∀ sp : Nat → Bool, (∀ p ∈ before, sp p.block = true) → DataW.TrodVars enc P W' sp s.vars (s.fn H (ds ++ gs)).vars pv)
    (hps : before = pa ++ pv) (hb : Below W.heap.size W W')
    (hok : ∀ (j : Nat) (t : TypeId) (r : Value), f.resultTypes[j]? = some t → (v.resultList f.resultTypes.size)[j]? = some r → Value.okWide P W' .any 0 t r) :
    s.post enc P f apart fresh handsOn again W args v W' :=
  post_of_below hW hres hargs hvars hps hb hok
end Go.Proofs.YtnjifmecaeagaaaDoor
end
section
namespace Go.Proofs.YtnjifmecaeagaaaDoor

/-- The number in m bits of w from a on. -/
def getN (w a m : Nat) : Nat := w / 2 ^ a % 2 ^ m
/-- w, but that m bits from a on are v's lowest ones. -/
def putN (w a m v : Nat) : Nat := w % 2 ^ a + v % 2 ^ m * 2 ^ a + w / 2 ^ (a + m) * 2 ^ (a + m)

theorem pow_le64 {k : Nat} (h : k ≤ 64) : 2 ^ k ≤ 18446744073709551616 := by
  have := Nat.pow_le_pow_right (by omega : 2 > 0) (show k ≤ 64 by omega)
  simpa using this
theorem pow_lt64 {k : Nat} (h : k < 64) : 2 ^ k ≤ 9223372036854775808 := by
  have := Nat.pow_le_pow_right (by omega : 2 > 0) (show k ≤ 63 by omega)
  simpa using this

theorem getN_testBit (w a m i : Nat) : (getN w a m).testBit i = (decide (i < m) && w.testBit (a + i)) := by
  unfold getN
  rw [Nat.testBit_mod_two_pow, Nat.testBit_div_two_pow, Nat.add_comm]

theorem putN_eq (w a m v : Nat) : putN w a m v = 2 ^ a * (2 ^ m * (w / 2 ^ (a + m)) + v % 2 ^ m) + w % 2 ^ a := by
  unfold putN
  rw [Nat.mul_add, ← Nat.mul_assoc, ← Nat.pow_add, Nat.mul_comm (v % 2 ^ m), Nat.mul_comm (w / 2 ^ (a + m))]
  omega

theorem putN_testBit (w a m v i : Nat) : (putN w a m v).testBit i = if a ≤ i ∧ i < a + m then v.testBit (i - a) else w.testBit i := by
  rw [putN_eq, Nat.testBit_two_pow_mul_add _ (Nat.mod_lt _ (Nat.pow_pos (by omega)))]
  by_cases h : i < a
  · rw [if_pos h, if_neg (by omega), Nat.testBit_mod_two_pow]; simp [h]
  · rw [if_neg h, Nat.testBit_two_pow_mul_add _ (Nat.mod_lt _ (Nat.pow_pos (by omega)))]
    by_cases h2 : i - a < m
    · rw [if_pos h2, if_pos (by omega), Nat.testBit_mod_two_pow]; simp [h2]
    · rw [if_neg h2, if_neg (by omega), Nat.testBit_div_two_pow]
      congr 1; omega

theorem putN_lt (w a m v : Nat) (hw : w < 18446744073709551616) (h : a + m ≤ 64) : putN w a m v < 18446744073709551616 := by
  refine Nat.lt_pow_two_of_testBit (n := 64) _ fun i hi => ?_
  rw [putN_testBit, if_neg (by omega)]
  exact Nat.testBit_lt_two_pow (Nat.lt_of_lt_of_le hw (Nat.pow_le_pow_right (by omega : 2 > 0) (show 64 ≤ i by omega)))

theorem getN_lt (w a m : Nat) : getN w a m < 2 ^ m := Nat.mod_lt _ (Nat.pow_pos (by omega))

/-- The hole cut, and the number laid into it. -/
theorem put_bits (w a m v : Nat) (hw : w < 18446744073709551616) (h : a + m ≤ 64) :
    (w &&& (18446744073709551615 - (2 ^ m - 1) * 2 ^ a)) ||| (v % 2 ^ m * 2 ^ a) = putN w a m v := by
  apply Nat.eq_of_testBit_eq
  intro i
  have hb : (2 ^ m - 1) * 2 ^ a < 2 ^ 64 := by
    have h1 : (2 ^ m - 1) * 2 ^ a < 2 ^ m * 2 ^ a := Nat.mul_lt_mul_of_pos_right (by have := Nat.pow_pos (n := m) (a := 2) (by omega); omega) (Nat.pow_pos (by omega))
    have h2 : 2 ^ m * 2 ^ a ≤ 2 ^ 64 := by rw [← Nat.pow_add]; exact Nat.pow_le_pow_right (by omega) (by omega)
    omega
  have e : 18446744073709551615 - (2 ^ m - 1) * 2 ^ a = 2 ^ 64 - ((2 ^ m - 1) * 2 ^ a + 1) := by omega
  rw [putN_testBit, Nat.testBit_or, Nat.testBit_and, e, Nat.testBit_two_pow_sub_succ hb, Nat.testBit_mul_two_pow, Nat.testBit_mul_two_pow, Nat.testBit_two_pow_sub_one, Nat.testBit_mod_two_pow]
  have hi64 : ¬ i < 64 → w.testBit i = false := fun hi => Nat.testBit_lt_two_pow (Nat.lt_of_lt_of_le hw (Nat.pow_le_pow_right (by omega : 2 > 0) (show 64 ≤ i by omega)))
  by_cases h1 : a ≤ i
  · by_cases h2 : i - a < m
    · rw [if_pos (by omega)]; simp [h1, h2]
    · rw [if_neg (by omega)]
      by_cases h3 : i < 64
      · simp [h1, h2, h3]
      · simp [h1, h2, h3, hi64 h3]
  · rw [if_neg (by omega)]
    by_cases h3 : i < 64
    · simp [h1, h3]
    · simp [h1, h3, hi64 h3]

theorem pow_cast (k : Nat) : ((2 : Int) ^ k) = ((2 ^ k : Nat) : Int) := by simp

/-- The lowest bits, in the walk's spelling. -/
theorem low_walk (x : Int) (k : Nat) (h0 : 0 ≤ x) (h1 : x < 18446744073709551616) (h : k < 64) :
    bits .and .u64 x (IntKind.u64.wrap (IntKind.u64.wrap (2 ^ k) - 1)) = x % 2 ^ k := by
  have hp := pow_lt64 h
  have hq : 0 < 2 ^ k := Nat.pow_pos (n := k) (a := 2) (by omega)
  obtain ⟨X, rfl⟩ := Int.eq_ofNat_of_zero_le h0
  rw [pow_cast, IntKind.wrap_u64, IntKind.wrap_u64, Int.emod_eq_of_lt (by omega) (by omega), Int.emod_eq_of_lt (by omega) (by omega)]
  have e : ((2 ^ k : Nat) : Int) - 1 = ((2 ^ k - 1 : Nat) : Int) := by omega
  rw [e, u64_and_nat X (2 ^ k - 1) (by omega) (by omega), Nat.and_two_pow_sub_one_eq_mod]
  exact Int.natCast_emod _ _

theorem shr_bd (x : Int) (k : Nat) (h0 : 0 ≤ x) (h1 : x < 18446744073709551616) : 0 ≤ x / 2 ^ k ∧ x / 2 ^ k < 18446744073709551616 := by
  obtain ⟨X, rfl⟩ := Int.eq_ofNat_of_zero_le h0
  have h : X / 2 ^ k ≤ X := Nat.div_le_self _ _
  rw [pow_cast, ← Int.natCast_ediv]
  exact ⟨Int.natCast_nonneg _, Int.lt_of_le_of_lt (Int.ofNat_le.2 h) h1⟩

/-- What Put answers, in the walk's spelling. -/
theorem put_walk (x v : Int) (a m : Nat) (h0 : 0 ≤ x) (h1 : x < 18446744073709551616) (hv0 : 0 ≤ v) (h : a + m ≤ 64) :
    bits .or .u64 (bits .andNot .u64 x (IntKind.u64.wrap (18446744073709551615 % 2 ^ m * 2 ^ a))) (IntKind.u64.wrap (v % 2 ^ m * 2 ^ a)) = ((putN x.toNat a m v.toNat : Nat) : Int) := by
  obtain ⟨X, rfl⟩ := Int.eq_ofNat_of_zero_le h0
  obtain ⟨V, rfl⟩ := Int.eq_ofNat_of_zero_le hv0
  have hle := pow_le64 (k := a + m) h
  have hm : 0 < 2 ^ m := Nat.pow_pos (n := m) (a := 2) (by omega)
  have ha : 0 < 2 ^ a := Nat.pow_pos (n := a) (a := 2) (by omega)
  have e1 : 18446744073709551615 % 2 ^ m = 2 ^ m - 1 := by
    have hd : 2 ^ m ∣ 18446744073709551616 := by
      have : (18446744073709551616 : Nat) = 2 ^ 64 := by decide
      rw [this]; exact Nat.pow_dvd_pow 2 (by omega)
    obtain ⟨q, hq⟩ := hd
    have hq0 : 0 < q := by
      rcases Nat.eq_zero_or_pos q with h | h
      · subst h; omega
      · exact h
    obtain ⟨r, rfl⟩ : ∃ r, q = r + 1 := ⟨q - 1, by omega⟩
    have : 18446744073709551615 = 2 ^ m - 1 + 2 ^ m * r := by rw [Nat.mul_add] at hq; omega
    rw [this, Nat.add_mul_mod_self_left]
    exact Nat.mod_eq_of_lt (by omega)
  have hb1 : (2 ^ m - 1) * 2 ^ a < 18446744073709551616 := by
    have : (2 ^ m - 1) * 2 ^ a < 2 ^ m * 2 ^ a := Nat.mul_lt_mul_of_pos_right (by omega) ha
    rw [← Nat.pow_add, Nat.add_comm] at this; omega
  have hb2 : V % 2 ^ m * 2 ^ a < 18446744073709551616 := by
    have : V % 2 ^ m * 2 ^ a < 2 ^ m * 2 ^ a := Nat.mul_lt_mul_of_pos_right (Nat.mod_lt _ hm) ha
    rw [← Nat.pow_add, Nat.add_comm] at this; omega
  have c1 : ((18446744073709551615 : Int) % 2 ^ m * 2 ^ a) = (((2 ^ m - 1) * 2 ^ a : Nat) : Int) := by
    rw [← e1, Int.natCast_mul, Int.natCast_emod, Int.natCast_pow, Int.natCast_pow]; rfl
  have c2 : ((V : Int) % 2 ^ m * 2 ^ a) = ((V % 2 ^ m * 2 ^ a : Nat) : Int) := by
    rw [Int.natCast_mul, Int.natCast_emod, Int.natCast_pow, Int.natCast_pow]; rfl
  rw [c1, c2, IntKind.wrap_u64, IntKind.wrap_u64, Int.emod_eq_of_lt (by omega) (by omega), Int.emod_eq_of_lt (by omega) (by omega)]
  have hX : X < 18446744073709551616 := by omega
  have hA : X &&& (18446744073709551615 - (2 ^ m - 1) * 2 ^ a) < 18446744073709551616 := Nat.lt_of_le_of_lt Nat.and_le_left hX
  rw [u64_andNot_nat X _ hX hb1, u64_or_nat _ _ hA hb2, put_bits X a m V hX h]
  simp

end Go.Proofs.YtnjifmecaeagaaaDoor
end
section
namespace Go.Proofs.YtnjifmecaeagaaaDoor
open Go.RowKit

def lowI (x m : Int) : Int := x % 2 ^ m.toNat
def getI (w a m : Int) : Int := ((getN w.toNat a.toNat m.toNat : Nat) : Int)
def putI (w a m v : Int) : Int := ((putN w.toNat a.toNat m.toNat v.toNat : Nat) : Int)

set_option maxHeartbeats 400000 in
theorem fits_yes (a m : Int) (w : World) (h0 : 0 ≤ a) (h1 : 1 ≤ m) (h2 : m ≤ 64) (h3 : a ≤ 64 - m) :
    Calls Tryd.prog 105 #[.int .i64 a, .int .i64 m] w fun e w' => e = .returned (.bool true) ∧ w = w' := by
  go_enter Tryd.func105, Tryd.ntmps105
  go_wp2
  go_ret
  exact ⟨rfl, rfl⟩

set_option maxHeartbeats 400000 in
theorem lowest_any (x m : Int) (w : World) (h0 : 0 ≤ x) (h1 : x < 18446744073709551616) (h2 : 0 ≤ m) (h : m ≤ 64) :
    Calls Tryd.prog 102 #[.int .u64 x, .int .i64 m] w fun e w' => e = .returned (.int .u64 (lowI x m)) ∧ w = w' := by
  by_cases h64 : m = 64
  · subst h64
    go_enter Tryd.func102, Tryd.ntmps102
    go_wp2
    go_ret
    refine ⟨?_, rfl⟩
    show Ending.returned (.int .u64 x) = _
    unfold lowI
    rw [show ((64 : Int).toNat) = 64 from rfl, show ((2 : Int) ^ 64) = 18446744073709551616 from by decide, Int.emod_eq_of_lt h0 h1]
  · have hlt : m < 64 := by omega
    go_enter Tryd.func102, Tryd.ntmps102
    go_wp2
    go_ret
    refine ⟨?_, rfl⟩
    rw [low_walk x m.toNat h0 h1 (by omega)]
    rfl

theorem lowI_bd (x m : Int) (h0 : 0 ≤ x) (h1 : x < 18446744073709551616) : 0 ≤ lowI x m ∧ lowI x m < 18446744073709551616 := by
  unfold lowI
  have hp : (0 : Int) < 2 ^ m.toNat := Int.pow_pos (by decide)
  have h2 := Int.emod_nonneg x (Int.ne_of_gt hp)
  have h3 : x % 2 ^ m.toNat ≤ x := by
    obtain ⟨X, rfl⟩ := Int.eq_ofNat_of_zero_le h0
    rw [pow_cast, ← Int.natCast_emod]
    exact Int.ofNat_le.2 (Nat.mod_le _ _)
  omega

set_option maxHeartbeats 400000 in
theorem get_yes (x a m : Int) (w : World) (h0 : 0 ≤ x) (h1 : x < 18446744073709551616) (ha : 0 ≤ a) (hm : 1 ≤ m) (h2 : m ≤ 64) (h3 : a ≤ 64 - m) :
    Calls Tryd.prog 94 #[.int .u64 x, .int .i64 a, .int .i64 m] w fun e w' => e = .returned (.int .u64 (getI x a m)) ∧ w = w' := by
  have h63 : a < 64 := by omega
  go_enter Tryd.func94, Tryd.ntmps94
  have hs := shr_bd x a.toNat h0 h1
  go_wp2_with (first | (go_at_call 105; refine (fits_yes _ _ _ ha hm h2 h3).mono ?_; rintro e w' ⟨rfl, rfl⟩) | (go_at_call 102; refine (lowest_any _ m _ hs.1 hs.2 (by omega) h2).mono ?_; rintro e w' ⟨rfl, rfl⟩))
  go_ret
  refine ⟨?_, rfl⟩
  show Ending.returned (.int .u64 (lowI (x / 2 ^ a.toNat) m)) = _
  unfold lowI getI getN
  obtain ⟨X, rfl⟩ := Int.eq_ofNat_of_zero_le h0
  rw [Int.natCast_emod, Int.natCast_ediv, Int.natCast_pow, Int.natCast_pow]
  rfl

set_option maxHeartbeats 400000 in
theorem put_yes (x a m v : Int) (w : World) (h0 : 0 ≤ x) (h1 : x < 18446744073709551616) (ha : 0 ≤ a) (hm : 1 ≤ m) (h2 : m ≤ 64) (h3 : a ≤ 64 - m) (hv0 : 0 ≤ v) (hv1 : v < 18446744073709551616) :
    Calls Tryd.prog 95 #[.int .u64 x, .int .i64 a, .int .i64 m, .int .u64 v] w fun e w' => e = .returned (.int .u64 (putI x a m v)) ∧ w = w' := by
  have h63 : a < 64 := by omega
  go_enter Tryd.func95, Tryd.ntmps95
  go_wp2_with (first | (go_at_call 105; refine (fits_yes _ _ _ ha hm h2 h3).mono ?_; rintro e w' ⟨rfl, rfl⟩) | (go_at_call 102; refine (lowest_any _ m _ (by omega) (by omega) (by omega) h2).mono ?_; rintro e w' ⟨rfl, rfl⟩))
  go_ret
  refine ⟨?_, rfl⟩
  show Ending.returned (.int .u64 (bits BinOp.or IntKind.u64 (bits BinOp.andNot IntKind.u64 x (IntKind.u64.wrap (lowI 18446744073709551615 m * 2 ^ a.toNat))) (IntKind.u64.wrap (lowI v m * 2 ^ a.toNat)))) = _
  unfold lowI putI
  rw [put_walk x v a.toNat m.toNat h0 h1 hv0 (by omega)]

theorem getI_bd (x a m : Int) (h0 : 0 ≤ x) (h1 : x < 18446744073709551616) : 0 ≤ getI x a m ∧ getI x a m < 18446744073709551616 := by
  unfold getI getN
  have h2 : x.toNat / 2 ^ a.toNat % 2 ^ m.toNat ≤ x.toNat := Nat.le_trans (Nat.mod_le _ _) (Nat.div_le_self _ _)
  omega
theorem putI_bd (x a m v : Int) (h0 : 0 ≤ x) (h1 : x < 18446744073709551616) (_ha : 0 ≤ a) (hm : 1 ≤ m) (h2 : m ≤ 64) (h3 : a ≤ 64 - m) : 0 ≤ putI x a m v ∧ putI x a m v < 18446744073709551616 := by
  unfold putI
  have := putN_lt x.toNat a.toNat m.toNat v.toNat (by omega) (by omega)
  omega
end Go.Proofs.YtnjifmecaeagaaaDoor
end
section
namespace Go.Proofs.YtnjifmecaeagaaaDoor

def onesL (r n : Nat) : List Nat := (List.range n).filter r.testBit

theorem low_bit : ∀ (r : Nat), 0 < r → ∃ t m, r = 2 ^ t * (2 * m + 1) := by
  intro r
  induction r using Nat.strongRecOn with
  | _ r ih =>
    intro h
    by_cases ho : r % 2 = 1
    · exact ⟨0, r / 2, by omega⟩
    · obtain ⟨t, m, e⟩ := ih (r / 2) (by omega) (by omega)
      refine ⟨t + 1, m, ?_⟩
      rw [Nat.pow_succ, Nat.mul_comm (2 ^ t) 2, Nat.mul_assoc, ← e]; omega

theorem odd_testBit (m j : Nat) : (2 * m + 1).testBit j = if j = 0 then true else m.testBit (j - 1) := by
  cases j with
  | zero => simp
  | succ k => rw [Nat.testBit_succ, show (2 * m + 1) / 2 = m by omega]; simp
theorem even_testBit (m j : Nat) : (2 * m).testBit j = if j = 0 then false else m.testBit (j - 1) := by
  cases j with
  | zero => simp
  | succ k => rw [Nat.testBit_succ, show (2 * m) / 2 = m by omega]; simp
theorem low_testBit (t m j : Nat) : (2 ^ t * (2 * m + 1)).testBit j = if j < t then false else if j = t then true else m.testBit (j - t - 1) := by
  rw [Nat.testBit_two_pow_mul, odd_testBit]
  by_cases h : j < t
  · simp [h]; omega
  · rw [if_neg h]
    by_cases e : j = t
    · simp [e]
    · rw [if_neg e, if_neg (by omega)]; simp; omega
theorem pred_testBit (t m j : Nat) : (2 ^ t * (2 * m + 1) - 1).testBit j = if j < t then true else if j = t then false else m.testBit (j - t - 1) := by
  have hp := Nat.pow_pos (n := t) (a := 2) (by omega)
  rw [show 2 ^ t * (2 * m + 1) - 1 = 2 ^ t * (2 * m) + (2 ^ t - 1) by rw [Nat.mul_add, Nat.mul_one]; omega, Nat.testBit_two_pow_mul_add _ (by omega), even_testBit, Nat.testBit_two_pow_sub_one]
  by_cases h : j < t
  · simp [h]
  · rw [if_neg h, if_neg h]
    by_cases e : j = t
    · simp [e]
    · rw [if_neg (by omega), if_neg e]

theorem clear_testBit (t m j : Nat) : ((2 ^ t * (2 * m + 1)) &&& (2 ^ t * (2 * m + 1) - 1)).testBit j = ((2 ^ t * (2 * m + 1)).testBit j && decide (j ≠ t)) := by
  rw [Nat.testBit_and, pred_testBit, low_testBit]
  by_cases h : j < t
  · simp [h]
  · by_cases e : j = t
    · simp [e]
    · simp [h, e]

theorem neg_and (t m : Nat) (h : 2 ^ t * (2 * m + 1) < 2 ^ 64) : (2 ^ t * (2 * m + 1)) &&& (2 ^ 64 - 2 ^ t * (2 * m + 1)) = 2 ^ t := by
  have hp := Nat.pow_pos (n := t) (a := 2) (by omega)
  have h0 : 0 < 2 ^ t * (2 * m + 1) := Nat.mul_pos hp (by omega)
  apply Nat.eq_of_testBit_eq
  intro j
  have e : 2 ^ 64 - 2 ^ t * (2 * m + 1) = 2 ^ 64 - ((2 ^ t * (2 * m + 1) - 1) + 1) := by omega
  rw [Nat.testBit_and, e, Nat.testBit_two_pow_sub_succ (by omega), pred_testBit, low_testBit, Nat.testBit_two_pow]
  have ht : t < 64 := by
    refine (Nat.pow_lt_pow_iff_right (a := 2) (by omega)).1 (Nat.lt_of_le_of_lt ?_ h)
    exact Nat.le_mul_of_pos_right _ (by omega)
  by_cases h1 : j < t
  · simp [h1]; omega
  · by_cases e1 : j = t
    · simp [e1, ht]
    · simp only [h1, e1, if_false]
      cases m.testBit (j - t - 1) <;> simp <;> omega

theorem tz_lt (t m : Nat) (h : 2 ^ t * (2 * m + 1) < 2 ^ 64) : t < 64 := by
  refine (Nat.pow_lt_pow_iff_right (a := 2) (by omega)).1 (Nat.lt_of_le_of_lt ?_ h)
  exact Nat.le_mul_of_pos_right _ (by omega)

/-- The ones of a word: the lowest one, and those of the word without it. -/
theorem ones_step (t m n : Nat) (ht : t < n) : onesL (2 ^ t * (2 * m + 1)) n = t :: onesL ((2 ^ t * (2 * m + 1)) &&& (2 ^ t * (2 * m + 1) - 1)) n := by
  unfold onesL
  obtain ⟨k, rfl⟩ : ∃ k, n = t + 1 + k := ⟨n - t - 1, by omega⟩
  have hr : List.range (t + 1 + k) = List.range t ++ (t :: (List.range k).map (t + 1 + ·)) := by
    rw [List.range_add, List.range_succ, List.append_assoc]; rfl
  rw [hr, List.filter_append, List.filter_append]
  have e1 : (List.range t).filter (2 ^ t * (2 * m + 1)).testBit = [] := by
    rw [List.filter_eq_nil_iff]; intro i hi; rw [low_testBit]; simp at hi; simp [hi]
  have e2 : (List.range t).filter ((2 ^ t * (2 * m + 1)) &&& (2 ^ t * (2 * m + 1) - 1)).testBit = [] := by
    rw [List.filter_eq_nil_iff]; intro i hi; rw [clear_testBit, low_testBit]; simp at hi; simp [hi]
  rw [e1, e2, List.nil_append, List.nil_append, List.filter_cons, List.filter_cons, clear_testBit, low_testBit]
  simp only [Nat.lt_irrefl, if_false, if_true, ne_eq, not_true_eq_false, decide_false, Bool.and_false]
  congr 1
  apply List.filter_congr
  intro i hi
  rw [List.mem_map] at hi
  obtain ⟨q, _, rfl⟩ := hi
  rw [clear_testBit]
  simp
  intro _; omega
theorem ones_zero (n : Nat) : onesL 0 n = [] := by
  unfold onesL; rw [List.filter_eq_nil_iff]; intro i _; simp
theorem ones_lt {r n x : Nat} (h : x ∈ onesL r n) : x < n ∧ r.testBit x = true := by
  unfold onesL at h; rw [List.mem_filter, List.mem_range] at h; exact h

def debTab : List Nat := [0, 1, 56, 2, 57, 49, 28, 3, 61, 58, 42, 50, 38, 29, 17, 4, 62, 47, 59, 36, 45, 43, 51, 22, 53, 39, 33, 30, 24, 18, 12, 5, 63, 55, 48, 27, 60, 41, 37, 16, 46, 35, 44, 21, 52, 32, 23, 11, 54, 26, 40, 15, 34, 20, 31, 10, 25, 14, 19, 9, 13, 8, 7, 6]
theorem deb_all : ∀ t : Fin 64, debTab.getD (2 ^ t.val * 285870213051353865 % 18446744073709551616 / 288230376151711744) 0 = t.val := by decide +kernel
end Go.Proofs.YtnjifmecaeagaaaDoor
end
section
set_option linter.unusedVariables false
namespace Go.Proofs.YtnjifmecaeagaaaDoor
open Go.RowKit

def Deb (w : World) : Prop := ∀ i, i < 64 → w.cell? ⟨6, i, none⟩ = some (.int .u8 (debTab.getD i 0))
theorem Deb.keep {W w1 : World} {n : Nat} (h : Deb W) (hb : Below n W w1) (hn : 6 < n) : Deb w1 := fun i hi => by
  rw [hb.cell (p := ⟨6, i, none⟩) hn]; exact h i hi

theorem tz_idx (x a : Nat) (hx : x < 18446744073709551616) (hx0 : x ≠ 0) (hlow : x &&& (2 ^ 64 - x) = a) :
    IntKind.u64.wrap (bits BinOp.and IntKind.u64 (x : Int) (IntKind.u64.wrap (-(x : Int))) * 285870213051353865) / 288230376151711744 = ((a * 285870213051353865 % 18446744073709551616 / 288230376151711744 : Nat) : Int) := by
  have e1 : IntKind.u64.wrap (-(x : Int)) = ((2 ^ 64 - x : Nat) : Int) := by rw [IntKind.wrap_u64]; omega
  rw [e1, u64_and_nat x _ hx (by omega), hlow, IntKind.wrap_u64]
  omega

set_option maxHeartbeats 1000000 in
theorem tz_walk (x k idx : Nat) (w : World) (hx0 : ((x : Int) == 0) = false)
    (key : IntKind.u64.wrap (bits BinOp.and IntKind.u64 (x : Int) (IntKind.u64.wrap (-(x : Int))) * 285870213051353865) / 288230376151711744 = (idx : Int))
    (hi : idx < 64) (hk : k < 64) (hcell : w.cell? ⟨6, idx, none⟩ = some (.int .u8 k)) :
    Calls Tryd.prog 109 #[.int .u64 x] w fun e w' => e = .returned (.int .i64 k) ∧ w = w' := by
  go_enter Tryd.func109, Tryd.ntmps109
  go_wp2_with (simp only [key])
  go_ret
  exact ⟨rfl, rfl⟩

theorem tz_any (t m : Nat) (w : World) (h : 2 ^ t * (2 * m + 1) < 2 ^ 64) (hd : Deb w) :
    Calls Tryd.prog 109 #[.int .u64 (((2 ^ t * (2 * m + 1) : Nat) : Int))] w fun e w' => e = .returned (.int .i64 t) ∧ w = w' := by
  have ht := tz_lt t m h
  have hp := Nat.pow_pos (n := t) (a := 2) (by omega)
  have h0 : 0 < 2 ^ t * (2 * m + 1) := Nat.mul_pos hp (by omega)
  have hlt : 2 ^ t * 285870213051353865 % 18446744073709551616 / 288230376151711744 < 64 := Nat.div_lt_of_lt_mul (Nat.lt_of_lt_of_le (Nat.mod_lt _ (by decide)) (by decide))
  have hc := hd _ hlt
  rw [show debTab.getD (2 ^ t * 285870213051353865 % 18446744073709551616 / 288230376151711744) 0 = t from deb_all ⟨t, ht⟩] at hc
  have hna := neg_and t m h
  generalize 2 ^ t * (2 * m + 1) = x at *
  exact tz_walk x t _ w (by simp; omega) (tz_idx x (2 ^ t) (by omega) (by omega) hna) hlt ht hc
end Go.Proofs.YtnjifmecaeagaaaDoor
end
section
namespace Go.Proofs.YtnjifmecaeagaaaDoor
section
variable {P : Program} {L : List Oper} {Q : Exit → Act → World → Prop} {md : Region.Mode} {S : World → Prop}

theorem takeL (i : Nat) {o : Oper} {v : Value} {fuel : Nat} {listed : Array Bool} {a : Act} {w : World} (hi : L[i]? = some o)
    (hs : Region.noSelect L.toArray = true) (hf : Region.free md L.toArray listed i = true) (hr : (Region.ready md L.toArray listed).contains i = true)
    (hQ : ∀ c a w, Q (.panic c) (a.put o.dst v) w → Q (.panic c) a w) (hw : Region.wanted o (yielded L.toArray a.tmps) = true) (hS : S w)
    (hy : ∀ w, S w → (execOp a.eval o).run P w = .ok (.value v) w)
    (h : wpAnyH P md L.toArray Q S fuel (listed.setIfInBounds i true) (a.put o.dst v) w) : wpAnyH P md L.toArray Q S (fuel + 1) listed a w :=
  wpAnyH_take (by simpa using hi) hs hf hr hQ (.inl ⟨hw, hy⟩) hS h

theorem idleL (i : Nat) {o : Oper} {fuel : Nat} {listed : Array Bool} {a : Act} {w : World} (hi : L[i]? = some o)
    (hs : Region.noSelect L.toArray = true) (hf : Region.free md L.toArray listed i = true) (hr : (Region.ready md L.toArray listed).contains i = true)
    (hQ : ∀ c a w, Q (.panic c) (a.put o.dst undef) w → Q (.panic c) a w) (hw : Region.wanted o (yielded L.toArray a.tmps) = false) (hS : S w)
    (h : wpAnyH P md L.toArray Q S fuel (listed.setIfInBounds i true) (a.put o.dst undef) w) : wpAnyH P md L.toArray Q S (fuel + 1) listed a w :=
  wpAnyH_take (by simpa using hi) hs hf hr hQ (.inr ⟨hw, rfl⟩) hS h

theorem oneL (i : Nat) {o : Oper} {fuel : Nat} {listed : Array Bool} {a : Act} {w : World} (hi : L[i]? = some o) (hr : Region.ready md L.toArray listed = [i])
    (h : ∀ K' : Act → World → Prop, Shut (∀ a w, S w → (S w → wpAnyH P md L.toArray Q S fuel (listed.setIfInBounds i true) a w) → K' a w) → if Region.wanted o (yielded L.toArray a.tmps) = true then Oper.wp P o a w K' Q else K' (a.put o.dst undef) w) :
    wpAnyH P md L.toArray Q S (fuel + 1) listed a w :=
  wpAnyH_ready hr (by simp) (AllReadyH.cons (by simpa using hi) h AllReadyH.nil)
theorem twoL (i j : Nat) {o o' : Oper} {fuel : Nat} {listed : Array Bool} {a : Act} {w : World} (hi : L[i]? = some o) (hj : L[j]? = some o') (hr : Region.ready md L.toArray listed = [i, j])
    (h : ∀ K' : Act → World → Prop, Shut (∀ a w, S w → (S w → wpAnyH P md L.toArray Q S fuel (listed.setIfInBounds i true) a w) → K' a w) → if Region.wanted o (yielded L.toArray a.tmps) = true then Oper.wp P o a w K' Q else K' (a.put o.dst undef) w)
    (h' : ∀ K' : Act → World → Prop, Shut (∀ a w, S w → (S w → wpAnyH P md L.toArray Q S fuel (listed.setIfInBounds j true) a w) → K' a w) → if Region.wanted o' (yielded L.toArray a.tmps) = true then Oper.wp P o' a w K' Q else K' (a.put o'.dst undef) w) :
    wpAnyH P md L.toArray Q S (fuel + 1) listed a w :=
  wpAnyH_ready hr (by simp) (AllReadyH.cons (by simpa using hi) h (AllReadyH.cons (by simpa using hj) h' AllReadyH.nil))
end
end Go.Proofs.YtnjifmecaeagaaaDoor
end
section
set_option linter.unusedVariables false
namespace Go.Proofs.YtnjifmecaeagaaaDoor
open Go.RowKit

def CC (w : World) (b : Nat) (x y : Int) : Prop := w.cell? ⟨b, 0, none⟩ = some (.int .i64 x) ∧ w.cell? ⟨b, 1, none⟩ = some (.int .i64 y)
theorem CC.lt {w : World} {b : Nat} {x y : Int} (h : CC w b x y) : b < w.heap.size := World.block_lt_of_cell? w _ h.1
theorem CC.keep {W w1 : World} {b : Nat} {x y : Int} (h : CC W b x y) (hb : Below W.heap.size W w1) : CC w1 b x y :=
  ⟨by rw [(bcell hb).1 _ _ h.lt]; exact h.1, by rw [(bcell hb).1 _ _ h.lt]; exact h.2⟩
/-- the places lie where the program laid them -/
def Pl (w : World) : Prop :=
  CC w 0 0 3 ∧ CC w 1 3 2 ∧ CC w 2 5 6 ∧ CC w 3 11 13 ∧ CC w 4 24 8
theorem Pl.keep {W w1 : World} (h : Pl W) (hb : Below W.heap.size W w1) : Pl w1 :=
  ⟨h.1.keep hb, h.2.1.keep hb, h.2.2.1.keep hb, h.2.2.2.1.keep hb, h.2.2.2.2.keep hb⟩

theorem or_add (k : Nat) (y x : Nat) (hy : y < 2 ^ k) (h : y + 2 ^ k * x < 18446744073709551616) : bits .or .u64 (y : Int) ((2 ^ k * x : Nat) : Int) = ((y + 2 ^ k * x : Nat) : Int) := by
  rw [u64_or_nat y (2 ^ k * x) (by omega) (by omega)]
  congr 1
  rw [Nat.or_comm, ← Nat.two_pow_add_eq_or_of_lt hy, Nat.add_comm]

/-- a number put into no bits -/
theorem putI_zero (a m v : Nat) (hv : v < 2 ^ m) : putI 0 a m v = ((2 ^ a * v : Nat) : Int) := by
  unfold putI putN
  simp only [Int.toNat_natCast, Int.toNat_zero, Nat.zero_mod, Nat.zero_div, Nat.zero_mul, Nat.zero_add, Nat.add_zero, Nat.mod_eq_of_lt hv, Nat.mul_comm]

set_option maxHeartbeats 400000 in
theorem pin_any (x : Int) (a m : Int) (w : World) (h0 : 0 ≤ x) (h1 : x < 18446744073709551616) (ha : 0 ≤ a) (hm : 1 ≤ m) (h2 : m ≤ 64) (h3 : a ≤ 64 - m) :
    Calls Tryd.prog 67 #[.agg #[.int .i64 a, .int .i64 m], .int .u64 x] w fun e w' => e = .returned (.int .u64 (getI x a m)) ∧ Below w.heap.size w w' := by
  go_enter Tryd.func67, Tryd.ntmps67
  go_wp2_with fail
  refine (get_yes x a m _ h0 h1 ha hm h2 h3).mono ?_
  rintro e w' ⟨rfl, rfl⟩
  go_wp2_with fail
  go_ret
  exact ⟨rfl, (Below.refl _ _).alloc (Nat.le_refl _) _⟩
set_option maxHeartbeats 400000 in
theorem pof_any (a m v : Int) (w : World) (ha : 0 ≤ a) (hm : 1 ≤ m) (h2 : m ≤ 64) (h3 : a ≤ 64 - m) (hv0 : 0 ≤ v) (hv1 : v < 18446744073709551616) :
    Calls Tryd.prog 70 #[.agg #[.int .i64 a, .int .i64 m], .int .u64 v] w fun e w' => e = .returned (.int .u64 (putI 0 a m v)) ∧ Below w.heap.size w w' := by
  go_enter Tryd.func70, Tryd.ntmps70
  go_wp2_with fail
  refine (put_yes 0 a m v _ (by omega) (by omega) ha hm h2 h3 hv0 hv1).mono ?_
  rintro e w' ⟨rfl, rfl⟩
  go_wp2_with fail
  go_ret
  exact ⟨rfl, (Below.refl _ _).alloc (Nat.le_refl _) _⟩

theorem of_kind (v : Int) (w : World) (h0 : 0 ≤ v) (h1 : v < 8) :
    Calls Tryd.prog 70 #[.agg #[.int .i64 0, .int .i64 3], .int .u64 v] w fun e w' => e = .returned (.int .u64 v) ∧ Below w.heap.size w w' := by
  obtain ⟨n, rfl⟩ := Int.eq_ofNat_of_zero_le h0
  have := pof_any 0 3 n w (by omega) (by omega) (by omega) (by omega) (by omega) (by omega)
  rwa [show putI 0 0 3 (n : Int) = (n : Int) by have := putI_zero 0 3 n (by omega); simpa using this] at this
theorem of_class (v : Int) (w : World) (h0 : 0 ≤ v) (h1 : v < 4) :
    Calls Tryd.prog 70 #[.agg #[.int .i64 3, .int .i64 2], .int .u64 v] w fun e w' => e = .returned (.int .u64 (8 * v)) ∧ Below w.heap.size w w' := by
  obtain ⟨n, rfl⟩ := Int.eq_ofNat_of_zero_le h0
  have := pof_any 3 2 n w (by omega) (by omega) (by omega) (by omega) (by omega) (by omega)
  rwa [show putI 0 3 2 (n : Int) = 8 * (n : Int) by have := putI_zero 3 2 n (by omega); simpa using this] at this
theorem of_lane (v : Int) (w : World) (h0 : 0 ≤ v) (h1 : v < 64) :
    Calls Tryd.prog 70 #[.agg #[.int .i64 5, .int .i64 6], .int .u64 v] w fun e w' => e = .returned (.int .u64 (32 * v)) ∧ Below w.heap.size w w' := by
  obtain ⟨n, rfl⟩ := Int.eq_ofNat_of_zero_le h0
  have := pof_any 5 6 n w (by omega) (by omega) (by omega) (by omega) (by omega) (by omega)
  rwa [show putI 0 5 6 (n : Int) = 32 * (n : Int) by have := putI_zero 5 6 n (by omega); simpa using this] at this
theorem of_many (v : Int) (w : World) (h0 : 0 ≤ v) (h1 : v < 8192) :
    Calls Tryd.prog 70 #[.agg #[.int .i64 11, .int .i64 13], .int .u64 v] w fun e w' => e = .returned (.int .u64 (2048 * v)) ∧ Below w.heap.size w w' := by
  obtain ⟨n, rfl⟩ := Int.eq_ofNat_of_zero_le h0
  have := pof_any 11 13 n w (by omega) (by omega) (by omega) (by omega) (by omega) (by omega)
  rwa [show putI 0 11 13 (n : Int) = 2048 * (n : Int) by have := putI_zero 11 13 n (by omega); simpa using this] at this
theorem of_bits (v : Int) (w : World) (h0 : 0 ≤ v) (h1 : v < 256) :
    Calls Tryd.prog 70 #[.agg #[.int .i64 24, .int .i64 8], .int .u64 v] w fun e w' => e = .returned (.int .u64 (16777216 * v)) ∧ Below w.heap.size w w' := by
  obtain ⟨n, rfl⟩ := Int.eq_ofNat_of_zero_le h0
  have := pof_any 24 8 n w (by omega) (by omega) (by omega) (by omega) (by omega) (by omega)
  rwa [show putI 0 24 8 (n : Int) = 16777216 * (n : Int) by have := putI_zero 24 8 n (by omega); simpa using this] at this

theorem or_class (k c : Int) (k0 : 0 ≤ k) (k1 : k < 8) (c0 : 0 ≤ c) (c1 : c < 4) : bits .or .u64 k (8 * c) = k + 8 * c := by
  obtain ⟨k, rfl⟩ := Int.eq_ofNat_of_zero_le k0
  obtain ⟨c, rfl⟩ := Int.eq_ofNat_of_zero_le c0
  simpa using or_add 3 k c (by omega) (by omega)
theorem or_lane (y l : Int) (k0 : 0 ≤ y) (k1 : y < 32) (c0 : 0 ≤ l) (c1 : l < 64) : bits .or .u64 y (32 * l) = y + 32 * l := by
  obtain ⟨k, rfl⟩ := Int.eq_ofNat_of_zero_le k0
  obtain ⟨c, rfl⟩ := Int.eq_ofNat_of_zero_le c0
  simpa using or_add 5 k c (by omega) (by omega)
theorem or_many (y l : Int) (k0 : 0 ≤ y) (k1 : y < 2048) (c0 : 0 ≤ l) (c1 : l < 8192) : bits .or .u64 y (2048 * l) = y + 2048 * l := by
  obtain ⟨k, rfl⟩ := Int.eq_ofNat_of_zero_le k0
  obtain ⟨c, rfl⟩ := Int.eq_ofNat_of_zero_le c0
  simpa using or_add 11 k c (by omega) (by omega)
theorem or_bits (y l : Int) (k0 : 0 ≤ y) (k1 : y < 16777216) (c0 : 0 ≤ l) (c1 : l < 256) : bits .or .u64 y (16777216 * l) = y + 16777216 * l := by
  obtain ⟨k, rfl⟩ := Int.eq_ofNat_of_zero_le k0
  obtain ⟨c, rfl⟩ := Int.eq_ofNat_of_zero_le c0
  simpa using or_add 24 k c (by omega) (by omega)

/-- a chunk's cells -/
def C5 (w : World) (g : Nat) (k c l m b : Int) : Prop :=
  w.cell? ⟨g, 0, none⟩ = some (.int .i64 k) ∧ w.cell? ⟨g, 1, none⟩ = some (.int .i64 c) ∧ w.cell? ⟨g, 2, none⟩ = some (.int .i64 l) ∧ w.cell? ⟨g, 3, none⟩ = some (.int .i64 m) ∧ w.cell? ⟨g, 4, none⟩ = some (.int .u64 b)
theorem C5.lt {w : World} {g : Nat} {k c l m b : Int} (h : C5 w g k c l m b) : g < w.heap.size := World.block_lt_of_cell? w _ h.1
theorem C5.keep {W w1 : World} {g : Nat} {k c l m b : Int} (h : C5 W g k c l m b) (hb : Below W.heap.size W w1) : C5 w1 g k c l m b := by
  obtain ⟨h0, h1, h2, h3, h4⟩ := id h
  have hl := h.lt
  refine ⟨?_, ?_, ?_, ?_, ?_⟩ <;> (rw [(bcell hb).1 _ _ hl]; assumption)
theorem C5.new (w : World) (k c l m b : Int) (t : TypeId) : C5 (w.alloc (.cells #[.int .i64 k, .int .i64 c, .int .i64 l, .int .i64 m, .int .u64 b] t)) w.heap.size k c l m b := by
  refine ⟨?_, ?_, ?_, ?_, ?_⟩ <;> simp [go_sem]

def wordI (k c l m b : Int) : Int := k + 8 * c + 32 * l + 2048 * m + 16777216 * b
set_option maxHeartbeats 4000000 in
theorem word_any (k c l m b : Int) (w : World) (hp : Pl w) (k0 : 0 ≤ k) (k1 : k < 8) (c0 : 0 ≤ c) (c1 : c < 4) (l0 : 0 ≤ l) (l1 : l < 64) (m0 : 0 ≤ m) (m1 : m < 8192) (b0 : 0 ≤ b) (b1 : b < 256) :
    Calls Tryd.prog 69 #[.agg #[.int .i64 k, .int .i64 c, .int .i64 l, .int .i64 m, .int .u64 b]] w fun e w' => e = .returned (.int .u64 (wordI k c l m b)) ∧ Below w.heap.size w w' := by
  have e1 := or_class k c k0 k1 c0 c1
  have e2 := or_lane (k + 8 * c) l (by omega) (by omega) l0 l1
  have e3 := or_many (k + 8 * c + 32 * l) m (by omega) (by omega) m0 m1
  have e4 := or_bits (k + 8 * c + 32 * l + 2048 * m) b (by omega) (by omega) b0 b1
  have f1 : IntKind.u64.wrap k = k := by rw [IntKind.wrap_u64]; omega
  have f2 : IntKind.u64.wrap c = c := by rw [IntKind.wrap_u64]; omega
  have f3 : IntKind.u64.wrap l = l := by rw [IntKind.wrap_u64]; omega
  have f4 : IntKind.u64.wrap m = m := by rw [IntKind.wrap_u64]; omega
  have hp1 := hp.keep ((Below.refl _ w).alloc (Nat.le_refl _) (.cells #[.int .i64 k, .int .i64 c, .int .i64 l, .int .i64 m, .int .u64 b] 29))
  obtain ⟨⟨p00, p01⟩, ⟨p10, p11⟩, ⟨p20, p21⟩, ⟨p30, p31⟩, ⟨p40, p41⟩⟩ := id hp1
  have hsz : 4 < w.heap.size ∧ 0 < w.heap.size ∧ 1 < w.heap.size ∧ 2 < w.heap.size ∧ 3 < w.heap.size := ⟨hp.2.2.2.2.lt, hp.1.lt, hp.2.1.lt, hp.2.2.1.lt, hp.2.2.2.1.lt⟩
  obtain ⟨z4, z0, z1, z2, z3⟩ := hsz
  clear hp
  go_enter Tryd.func69, Tryd.ntmps69
  go_wp2_with fail
  go_region_held3 (fun w' => w'.cell? ⟨w.heap.size, 0, none⟩ = some (.int .i64 k) ∧ w'.cell? ⟨w.heap.size, 1, none⟩ = some (.int .i64 c) ∧ w'.cell? ⟨w.heap.size, 2, none⟩ = some (.int .i64 l) ∧ w'.cell? ⟨w.heap.size, 3, none⟩ = some (.int .i64 m) ∧ w'.cell? ⟨w.heap.size, 4, none⟩ = some (.int .u64 b) ∧ w.heap.size < w'.heap.size ∧ Below w.heap.size w w' ∧ Pl w' ∧ w'.cell? ⟨0, 0, none⟩ = some (.int .i64 0) ∧ w'.cell? ⟨0, 1, none⟩ = some (.int .i64 3) ∧ w'.cell? ⟨1, 0, none⟩ = some (.int .i64 3) ∧ w'.cell? ⟨1, 1, none⟩ = some (.int .i64 2) ∧ w'.cell? ⟨2, 0, none⟩ = some (.int .i64 5) ∧ w'.cell? ⟨2, 1, none⟩ = some (.int .i64 6))
    (((try go_split_ands); refine ⟨?_, ?_, ?_, ?_, ?_, ?_, ?_, ?_, ?_, ?_, ?_, ?_, ?_, ?_⟩ <;> first | assumption | (exact hp1) | (rw [hb.cell (by assumption)]; assumption) | (rw [hb.cell (Nat.lt_trans z0 (by assumption))]; assumption) | (rw [hb.cell (Nat.lt_trans z1 (by assumption))]; assumption) | (rw [hb.cell (Nat.lt_trans z2 (by assumption))]; assumption) | (exact Pl.keep (by assumption) hb) | (have := hb.size; omega) | (exact Below.trans (by assumption) (hb.mono (Nat.le_of_lt (by assumption)))) | (go_keep; done) | (go_grown; done)))
    ((first | (go_at_call 70; (with_reducible refine (of_kind k _ k0 k1).mono ?_); rintro e w8 ⟨rfl, hb⟩) | (go_at_call 70; (with_reducible refine (of_class c _ c0 c1).mono ?_); rintro e w8 ⟨rfl, hb⟩) | (go_at_call 70; (with_reducible refine (of_lane l _ l0 l1).mono ?_); rintro e w8 ⟨rfl, hb⟩)))
  go_wp2_with fail
  go_split_ands
  clear hp1 p00 p01 p10 p11 p20 p21 p30 p31 p40 p41
  have hp2 := ‹Pl _›
  obtain ⟨_, _, _, ⟨p30, p31⟩, ⟨p40, p41⟩⟩ := id hp2
  go_region_held3 (fun w' => w'.cell? ⟨w.heap.size, 3, none⟩ = some (.int .i64 m) ∧ w'.cell? ⟨w.heap.size, 4, none⟩ = some (.int .u64 b) ∧ w.heap.size < w'.heap.size ∧ Below w.heap.size w w' ∧ w'.cell? ⟨3, 0, none⟩ = some (.int .i64 11) ∧ w'.cell? ⟨3, 1, none⟩ = some (.int .i64 13) ∧ w'.cell? ⟨4, 0, none⟩ = some (.int .i64 24) ∧ w'.cell? ⟨4, 1, none⟩ = some (.int .i64 8))
    (((try go_split_ands); refine ⟨?_, ?_, ?_, ?_, ?_, ?_, ?_, ?_⟩ <;> first | assumption | (rw [hb.cell (by assumption)]; assumption) | (rw [hb.cell (Nat.lt_trans z3 (by assumption))]; assumption) | (rw [hb.cell (Nat.lt_trans z4 (by assumption))]; assumption) | (have := hb.size; omega) | (exact Below.trans (by assumption) (hb.mono (Nat.le_of_lt (by assumption)))) | (go_keep; done) | (go_grown; done)))
    ((first | (go_at_call 70; (with_reducible refine (of_many m _ m0 m1).mono ?_); rintro e w8 ⟨rfl, hb⟩) | (go_at_call 70; (with_reducible refine (of_bits b _ b0 b1).mono ?_); rintro e w8 ⟨rfl, hb⟩)))
  go_wp2_with fail
  go_ret
  go_split_ands
  exact ⟨ret_i (by first | rfl | (unfold wordI; omega)), by assumption⟩
end Go.Proofs.YtnjifmecaeagaaaDoor
end
section
set_option linter.unusedVariables false
namespace Go.Proofs.YtnjifmecaeagaaaDoor
open Go.RowKit

def Tab (w : World) : Prop := w.cell? ⟨5, 0, none⟩ = some (.int .i64 4) ∧ w.cell? ⟨5, 1, none⟩ = some (.int .i64 8) ∧ w.cell? ⟨5, 2, none⟩ = some (.int .i64 16)

def blkI (c : Int) : Int := if c = 0 then 4 else if c = 1 then 8 else if c = 2 then 16 else 0
def mnyI (c : Int) : Int := if c = 0 then 8 else if c = 1 then 4 else if c = 2 then 2 else 0
set_option maxHeartbeats 800000 in
theorem blk_0 (s : Int) (w : World) (ht : Tab w) (h1 : s = 0) : Calls Tryd.prog 91 #[.int .i64 s] w fun e w' => e = .returned (.int .i64 4) ∧ w = w' := by
  obtain ⟨t0, t1, t2⟩ := ht
  subst h1
  go_enter Tryd.func91, Tryd.ntmps91
  go_wp2
  go_ret
  exact ⟨rfl, rfl⟩

set_option maxHeartbeats 800000 in
theorem refBlk_0 (s : Int) (w : World) (h1 : s = 0) : Calls Tryd.prog 34 #[.int .i64 s] w fun e w' => e = .returned (.int .i64 4) ∧ w = w' := by
  subst h1
  go_enter Tryd.func34, Tryd.ntmps34
  go_wp2
  go_ret
  exact ⟨rfl, rfl⟩

set_option maxHeartbeats 800000 in
theorem blk_1 (s : Int) (w : World) (ht : Tab w) (h1 : s = 1) : Calls Tryd.prog 91 #[.int .i64 s] w fun e w' => e = .returned (.int .i64 8) ∧ w = w' := by
  obtain ⟨t0, t1, t2⟩ := ht
  subst h1
  go_enter Tryd.func91, Tryd.ntmps91
  go_wp2
  go_ret
  exact ⟨rfl, rfl⟩

set_option maxHeartbeats 800000 in
theorem refBlk_1 (s : Int) (w : World) (h1 : s = 1) : Calls Tryd.prog 34 #[.int .i64 s] w fun e w' => e = .returned (.int .i64 8) ∧ w = w' := by
  subst h1
  go_enter Tryd.func34, Tryd.ntmps34
  go_wp2
  go_ret
  exact ⟨rfl, rfl⟩

set_option maxHeartbeats 800000 in
theorem blk_2 (s : Int) (w : World) (ht : Tab w) (h1 : s = 2) : Calls Tryd.prog 91 #[.int .i64 s] w fun e w' => e = .returned (.int .i64 16) ∧ w = w' := by
  obtain ⟨t0, t1, t2⟩ := ht
  subst h1
  go_enter Tryd.func91, Tryd.ntmps91
  go_wp2
  go_ret
  exact ⟨rfl, rfl⟩

set_option maxHeartbeats 800000 in
theorem refBlk_2 (s : Int) (w : World) (h1 : s = 2) : Calls Tryd.prog 34 #[.int .i64 s] w fun e w' => e = .returned (.int .i64 16) ∧ w = w' := by
  subst h1
  go_enter Tryd.func34, Tryd.ntmps34
  go_wp2
  go_ret
  exact ⟨rfl, rfl⟩

set_option maxHeartbeats 800000 in
theorem blk_3 (s : Int) (w : World) (ht : Tab w) (h1 : 3 ≤ s) : Calls Tryd.prog 91 #[.int .i64 s] w fun e w' => e = .returned (.int .i64 0) ∧ w = w' := by
  obtain ⟨t0, t1, t2⟩ := ht
  go_enter Tryd.func91, Tryd.ntmps91
  go_wp2
  go_ret
  exact ⟨rfl, rfl⟩

set_option maxHeartbeats 800000 in
theorem refBlk_3 (s : Int) (w : World) (h1 : 3 ≤ s) : Calls Tryd.prog 34 #[.int .i64 s] w fun e w' => e = .returned (.int .i64 0) ∧ w = w' := by
  go_enter Tryd.func34, Tryd.ntmps34
  go_wp2
  go_ret
  exact ⟨rfl, rfl⟩

set_option maxHeartbeats 800000 in
theorem blk_4 (s : Int) (w : World) (ht : Tab w) (h1 : s ≤ -1) : Calls Tryd.prog 91 #[.int .i64 s] w fun e w' => e = .returned (.int .i64 0) ∧ w = w' := by
  obtain ⟨t0, t1, t2⟩ := ht
  go_enter Tryd.func91, Tryd.ntmps91
  go_wp2
  go_ret
  exact ⟨rfl, rfl⟩

set_option maxHeartbeats 800000 in
theorem refBlk_4 (s : Int) (w : World) (h1 : s ≤ -1) : Calls Tryd.prog 34 #[.int .i64 s] w fun e w' => e = .returned (.int .i64 0) ∧ w = w' := by
  go_enter Tryd.func34, Tryd.ntmps34
  go_wp2
  go_ret
  exact ⟨rfl, rfl⟩

theorem blk_any (s : Int) (w : World) (ht : Tab w) : Calls Tryd.prog 91 #[.int .i64 s] w fun e w' => e = .returned (.int .i64 (blkI s)) ∧ w = w' := by
  by_cases a1 : s = 0
  · rw [show blkI s = 4 by simp [blkI, a1]]; exact blk_0 s w ht a1
  by_cases a2 : s = 1
  · rw [show blkI s = 8 by simp [blkI, a2]]; exact blk_1 s w ht a2
  by_cases a3 : s = 2
  · rw [show blkI s = 16 by simp [blkI, a3]]; exact blk_2 s w ht a3
  rw [show blkI s = 0 by simp [blkI, a1, a2, a3]]
  by_cases a4 : s < 0
  · exact blk_4 s w ht (by omega)
  · exact blk_3 s w ht (by omega)

theorem refBlk_any (s : Int) (w : World) : Calls Tryd.prog 34 #[.int .i64 s] w fun e w' => e = .returned (.int .i64 (blkI s)) ∧ w = w' := by
  by_cases a1 : s = 0
  · rw [show blkI s = 4 by simp [blkI, a1]]; exact refBlk_0 s w a1
  by_cases a2 : s = 1
  · rw [show blkI s = 8 by simp [blkI, a2]]; exact refBlk_1 s w a2
  by_cases a3 : s = 2
  · rw [show blkI s = 16 by simp [blkI, a3]]; exact refBlk_2 s w a3
  rw [show blkI s = 0 by simp [blkI, a1, a2, a3]]
  by_cases a4 : s < 0
  · exact refBlk_4 s w (by omega)
  · exact refBlk_3 s w (by omega)

set_option maxHeartbeats 800000 in
theorem mny_0 (s : Int) (w : World) (ht : Tab w) (h1 : s = 0) : Calls Tryd.prog 90 #[.int .i64 s] w fun e w' => e = .returned (.int .i64 8) ∧ w = w' := by
  subst h1
  go_enter Tryd.func90, Tryd.ntmps90
  go_wp2_with (go_at_call 91; refine (blk_0 0 _ ht rfl).mono ?_; rintro e w' ⟨rfl, rfl⟩)
  go_ret
  exact ⟨rfl, rfl⟩

set_option maxHeartbeats 800000 in
theorem refMny_0 (s : Int) (w : World) (h1 : s = 0) : Calls Tryd.prog 32 #[.int .i64 s] w fun e w' => e = .returned (.int .i64 8) ∧ w = w' := by
  subst h1
  go_enter Tryd.func32, Tryd.ntmps32
  go_wp2_with (go_at_call 34; refine (refBlk_0 0 _ rfl).mono ?_; rintro e w' ⟨rfl, rfl⟩)
  refine wp_loop_rounds 10 ?_
  repeat any_goals (rw [rounds_succ]; go_wp2_with (go_at_call 34; refine (refBlk_0 0 _ rfl).mono ?_; rintro e w' ⟨rfl, rfl⟩))
  go_ret
  exact ⟨rfl, rfl⟩

set_option maxHeartbeats 800000 in
theorem mny_1 (s : Int) (w : World) (ht : Tab w) (h1 : s = 1) : Calls Tryd.prog 90 #[.int .i64 s] w fun e w' => e = .returned (.int .i64 4) ∧ w = w' := by
  subst h1
  go_enter Tryd.func90, Tryd.ntmps90
  go_wp2_with (go_at_call 91; refine (blk_1 1 _ ht rfl).mono ?_; rintro e w' ⟨rfl, rfl⟩)
  go_ret
  exact ⟨rfl, rfl⟩

set_option maxHeartbeats 800000 in
theorem refMny_1 (s : Int) (w : World) (h1 : s = 1) : Calls Tryd.prog 32 #[.int .i64 s] w fun e w' => e = .returned (.int .i64 4) ∧ w = w' := by
  subst h1
  go_enter Tryd.func32, Tryd.ntmps32
  go_wp2_with (go_at_call 34; refine (refBlk_1 1 _ rfl).mono ?_; rintro e w' ⟨rfl, rfl⟩)
  refine wp_loop_rounds 10 ?_
  repeat any_goals (rw [rounds_succ]; go_wp2_with (go_at_call 34; refine (refBlk_1 1 _ rfl).mono ?_; rintro e w' ⟨rfl, rfl⟩))
  go_ret
  exact ⟨rfl, rfl⟩

set_option maxHeartbeats 800000 in
theorem mny_2 (s : Int) (w : World) (ht : Tab w) (h1 : s = 2) : Calls Tryd.prog 90 #[.int .i64 s] w fun e w' => e = .returned (.int .i64 2) ∧ w = w' := by
  subst h1
  go_enter Tryd.func90, Tryd.ntmps90
  go_wp2_with (go_at_call 91; refine (blk_2 2 _ ht rfl).mono ?_; rintro e w' ⟨rfl, rfl⟩)
  go_ret
  exact ⟨rfl, rfl⟩

set_option maxHeartbeats 800000 in
theorem refMny_2 (s : Int) (w : World) (h1 : s = 2) : Calls Tryd.prog 32 #[.int .i64 s] w fun e w' => e = .returned (.int .i64 2) ∧ w = w' := by
  subst h1
  go_enter Tryd.func32, Tryd.ntmps32
  go_wp2_with (go_at_call 34; refine (refBlk_2 2 _ rfl).mono ?_; rintro e w' ⟨rfl, rfl⟩)
  refine wp_loop_rounds 10 ?_
  repeat any_goals (rw [rounds_succ]; go_wp2_with (go_at_call 34; refine (refBlk_2 2 _ rfl).mono ?_; rintro e w' ⟨rfl, rfl⟩))
  go_ret
  exact ⟨rfl, rfl⟩

set_option maxHeartbeats 800000 in
theorem mny_3 (s : Int) (w : World) (ht : Tab w) (h1 : 3 ≤ s) : Calls Tryd.prog 90 #[.int .i64 s] w fun e w' => e = .returned (.int .i64 0) ∧ w = w' := by
  go_enter Tryd.func90, Tryd.ntmps90
  go_wp2_with (go_at_call 91; refine (blk_3 s _ ht h1).mono ?_; rintro e w' ⟨rfl, rfl⟩)
  go_ret
  exact ⟨rfl, rfl⟩

set_option maxHeartbeats 800000 in
theorem refMny_3 (s : Int) (w : World) (h1 : 3 ≤ s) : Calls Tryd.prog 32 #[.int .i64 s] w fun e w' => e = .returned (.int .i64 0) ∧ w = w' := by
  go_enter Tryd.func32, Tryd.ntmps32
  go_wp2_with (go_at_call 34; refine (refBlk_3 s _ h1).mono ?_; rintro e w' ⟨rfl, rfl⟩)
  refine wp_loop_rounds 10 ?_
  repeat any_goals (rw [rounds_succ]; go_wp2_with (go_at_call 34; refine (refBlk_3 s _ h1).mono ?_; rintro e w' ⟨rfl, rfl⟩))
  go_ret
  exact ⟨rfl, rfl⟩

set_option maxHeartbeats 800000 in
theorem mny_4 (s : Int) (w : World) (ht : Tab w) (h1 : s ≤ -1) : Calls Tryd.prog 90 #[.int .i64 s] w fun e w' => e = .returned (.int .i64 0) ∧ w = w' := by
  go_enter Tryd.func90, Tryd.ntmps90
  go_wp2_with (go_at_call 91; refine (blk_4 s _ ht h1).mono ?_; rintro e w' ⟨rfl, rfl⟩)
  go_ret
  exact ⟨rfl, rfl⟩

set_option maxHeartbeats 800000 in
theorem refMny_4 (s : Int) (w : World) (h1 : s ≤ -1) : Calls Tryd.prog 32 #[.int .i64 s] w fun e w' => e = .returned (.int .i64 0) ∧ w = w' := by
  go_enter Tryd.func32, Tryd.ntmps32
  go_wp2_with (go_at_call 34; refine (refBlk_4 s _ h1).mono ?_; rintro e w' ⟨rfl, rfl⟩)
  refine wp_loop_rounds 10 ?_
  repeat any_goals (rw [rounds_succ]; go_wp2_with (go_at_call 34; refine (refBlk_4 s _ h1).mono ?_; rintro e w' ⟨rfl, rfl⟩))
  go_ret
  exact ⟨rfl, rfl⟩

theorem mny_any (s : Int) (w : World) (ht : Tab w) : Calls Tryd.prog 90 #[.int .i64 s] w fun e w' => e = .returned (.int .i64 (mnyI s)) ∧ w = w' := by
  by_cases a1 : s = 0
  · rw [show mnyI s = 8 by simp [mnyI, a1]]; exact mny_0 s w ht a1
  by_cases a2 : s = 1
  · rw [show mnyI s = 4 by simp [mnyI, a2]]; exact mny_1 s w ht a2
  by_cases a3 : s = 2
  · rw [show mnyI s = 2 by simp [mnyI, a3]]; exact mny_2 s w ht a3
  rw [show mnyI s = 0 by simp [mnyI, a1, a2, a3]]
  by_cases a4 : s < 0
  · exact mny_4 s w ht (by omega)
  · exact mny_3 s w ht (by omega)

theorem refMny_any (s : Int) (w : World) : Calls Tryd.prog 32 #[.int .i64 s] w fun e w' => e = .returned (.int .i64 (mnyI s)) ∧ w = w' := by
  by_cases a1 : s = 0
  · rw [show mnyI s = 8 by simp [mnyI, a1]]; exact refMny_0 s w a1
  by_cases a2 : s = 1
  · rw [show mnyI s = 4 by simp [mnyI, a2]]; exact refMny_1 s w a2
  by_cases a3 : s = 2
  · rw [show mnyI s = 2 by simp [mnyI, a3]]; exact refMny_2 s w a3
  rw [show mnyI s = 0 by simp [mnyI, a1, a2, a3]]
  by_cases a4 : s < 0
  · exact refMny_4 s w (by omega)
  · exact refMny_3 s w (by omega)


theorem tab_keep {w w1 : World} {n : Nat} (h : Tab w) (hs : 5 < n) (hb : Below n w w1) : Tab w1 :=
  ⟨by rw [hb.cell hs]; exact h.1, by rw [hb.cell hs]; exact h.2.1, by rw [hb.cell hs]; exact h.2.2⟩
end Go.Proofs.YtnjifmecaeagaaaDoor
end
section
set_option linter.unusedVariables false
namespace Go.Proofs.YtnjifmecaeagaaaDoor
section
variable {P : Program} {ops : Array Oper} {Q : Exit → Act → World → Prop}

theorem noDefer_spec {ops : Array Oper} (h : ops.all (fun o => match o.op with | .defer _ => false | _ => true) = true) : ∀ (i : Nat) (o : Oper), ops[i]? = some o → ∀ c, o.op ≠ .defer c := by
  intro i o hi c hc
  rw [Array.all_eq_true_iff_forall_mem] at h
  have := h o (Array.mem_of_getElem? hi)
  rw [hc] at this
  cases this

theorem oper_wr {l n : Nat} {o : Oper} {a : Act} {w : World} {K K' : Act → World → Prop} (hd : ∀ c, o.op ≠ .defer c) (hK : ∀ a w, K a w → K' a w) (hq : ¬ LetsOut Q)
    (h : o.wp P a w K Q) : o.wpIn (Fence.wide.inRound l) n P a w K' Q := by
  refine ⟨fun _ _ => trivial, ?_⟩
  rw [Oper.semAt_plain _ _ _ hd]
  unfold Oper.wp at h
  generalize (execOp a.eval o).run P w = r at *
  cases r with
  | ok x w' =>
    cases x <;> simp only [Oper.upon, Oper.uponIn] at h ⊢
    case value v => exact hK _ _ h
    case skip => exact hK _ _ h
    case «defer» d => exact hK _ _ h
    case enter f args =>
      have h2 : CallsIn Fence.wide (n - 1) P f args w' _ := callsIn_wide.2 h
      refine ⟨fun h => (by cases h), CallsIn.mono (F := Fence.wide) h2 (fun e w'' he => by cases e <;> first | exact hK _ _ he | exact he)⟩
    case row row args =>
      refine ⟨fun h => (by cases h), fun c cs hroom => ?_⟩
      obtain ⟨v, w'', r, s⟩ := h c cs
      exact ⟨v, w'', hK _ _ r, stepsIn_wide.2 s⟩
  | halt x w' => cases x <;> simp only [Oper.upon, Oper.uponIn] at h ⊢ <;> exact h

theorem wpOps_wr {l n : Nat} (hd : ∀ (i : Nat) (o : Oper), ops[i]? = some o → ∀ c, o.op ≠ .defer c) (hq : ¬ LetsOut Q) :
    ∀ (is : List Nat) (a : Act) (w : World), wpOps P ops Q is a w → wpOpsIn (Fence.wide.inRound l) n P ops Q is a w
  | [], a, w, h => h
  | i :: rest, a, w, h => by
    unfold wpOpsIn
    unfold wpOps at h
    cases ho : ops[i]? with
    | none => simp only [ho] at h ⊢; exact wpOps_wr hd hq rest a w h
    | some o =>
      simp only [ho] at h ⊢
      split
      · rename_i hw
        rw [if_pos hw] at h
        rcases h with h | ⟨_, h⟩
        · exact oper_wr (hd i o ho) (fun a w => wpOps_wr hd hq rest a w) hq h
        · exact (hq h).elim
      · rename_i hw
        rw [if_neg hw] at h
        exact ⟨fun _ _ => trivial, wpOps_wr hd hq rest _ w h⟩

/-- the beginning: as 'wp_region_held_drew', in a round -/
theorem wpIn_region_held_wr {l n id : Nat} {S : World → Prop} {a : Act} {w : World} (hm : P.follows .mixedOrders = true)
    (hd : ops.all (fun o => match o.op with | .defer _ => false | _ => true) = true) (hq : ¬ LetsOut Q) (hS : S w.drew)
    (h : S w.drew → wpAnyH P .any ops Q S ops.size (Array.replicate ops.size false) a w.drew) : (Code.region id ops true).wpIn (Fence.wide.inRound l) n P Q a w :=
  wpIn_region_draw fun t => by
    simp only [Region.schedule, hm, Bool.true_or, if_true]
    exact wpOps_wr (noDefer_spec hd) hq _ _ _ (wpAny_sound ops.size t _ a _ (wpAny_of_held _ _ _ _ (h hS)))
end
end Go.Proofs.YtnjifmecaeagaaaDoor
end
section
set_option linter.unusedVariables false
namespace Go.Proofs.YtnjifmecaeagaaaDoor
section
variable {P : Program} {ops : Array Oper} {Q : Exit → Act → World → Prop} {md : Region.Mode} {S : World → Prop}

def wpAnyS (P : Program) (md : Region.Mode) (ops : Array Oper) (Q : Exit → Act → World → Prop) (S : World → Prop) (n : Nat) : Nat → Array Bool → Act → World → Prop
  | 0, listed, a, w => Region.ready md ops listed = [] ∧ Q .normal a w
  | fuel + 1, listed, a, w =>
    (Region.ready md ops listed = [] → Q .normal a w) ∧
    ∀ i ∈ Region.ready md ops listed, wpOp P ops Q i (fun a' w' => (i < n → S w') ∧ wpAnyS P md ops Q S n fuel (listed.setIfInBounds i true) a' w') a w
theorem wpAny_of_S {n : Nat} : ∀ (fuel : Nat) (listed : Array Bool) (a : Act) (w : World), wpAnyS P md ops Q S n fuel listed a w → wpAny P md ops Q fuel listed a w
  | 0, _, _, _, h => h
  | fuel + 1, _, _, _, h => ⟨h.1, fun i hi => wpOp_mono (fun a' w' h' => wpAny_of_S fuel _ a' w' h'.2) (h.2 i hi)⟩
structure TailAt (md : Region.Mode) (ops : Array Oper) (n : Nat) : Prop where
  sink : Region.sinkB md ops n = true
  chain : Region.chainB md ops n = true
  lt : n < ops.size
theorem tailAt {n : Nat} (h : (Region.sinkB md ops n && Region.chainB md ops n && decide (n < ops.size)) = true) : TailAt md ops n := by
  simp only [Bool.and_eq_true, decide_eq_true_eq] at h
  exact ⟨h.1.1, h.1.2, h.2⟩
theorem wpAnyS_first {n i : Nat} {oi : Oper} {v : Value} (T : TailAt md ops n) (hin : i < n) (hi : ops[i]? = some oi) (hsel : ∀ (j : Nat) (o : Oper) cs b, ops[j]? = some o → o.op ≠ .select cs b)
    (hQ : ∀ c a w, Q (.panic c) (a.put oi.dst v) w → Q (.panic c) a w) :
    ∀ (fuel : Nat) (listed : Array Bool) (a : Act) (w : World), HeadInv md ops n listed →
      (∀ j oj, ops[j]? = some oj → j ≠ i → listed.getD j true = false → (∀ e ∈ oj.after, Region.binds md e = true → e.on ≠ i) → oi.apart ops oj = true) →
      i ∈ Region.ready md ops listed → YieldsIf P ops S oi v a → S w →
      wpAnyS P md ops Q S n fuel (listed.setIfInBounds i true) (a.put oi.dst v) w → wpAnyS P md ops Q S n (fuel + 1) listed a w := by
  intro fuel
  induction fuel with
  | zero =>
    intro listed a w inv _ hr hy hS H
    refine ⟨fun h => (by rw [h] at hr; cases hr), fun j hj => ?_⟩
    by_cases hji : j = i
    · subst hji; exact hy.wpOp hi hS ⟨fun _ => hS, H⟩
    · have := ready_mono hj hji
      rw [H.1] at this
      cases this
  | succ fuel ih =>
    intro listed a w inv hfree hr hy hS H
    refine ⟨fun h => (by rw [h] at hr; cases hr), fun j hj => ?_⟩
    by_cases hji : j = i
    · subst hji; exact hy.wpOp hi hS ⟨fun _ => hS, H⟩
    · have hjn : j < n := by
        rcases Nat.lt_or_ge j n with h | h
        · exact h
        · exact absurd hj (tail_waits T.sink T.chain T.lt inv (n - i) i rfl hin (mem_ready.1 hr).1 j h)
      have h1 := H.2 j (ready_mono hj hji)
      obtain ⟨hjun, oj, hoj, hall⟩ := mem_ready.1 hj
      have hnot : ∀ e ∈ oj.after, Region.binds md e = true → e.on ≠ i := fun e he hb heq => by
        have h1 := hall e he hb
        have h0 := (mem_ready.1 hr).1
        rw [heq] at h1
        rcases Nat.lt_or_ge i listed.size with h' | h'
        · simp [h'] at h0 h1; rw [h0] at h1; cases h1
        · simp [Array.getElem?_eq_none h'] at h1
      have h2 := wpOp_putIf hoj (hfree j oj hoj hji hjun hnot) (fun cs b => hsel i oi cs b hi) (fun cs b => hsel j oj cs b hoj) hQ hy h1
      have hfree' : ∀ k ok, ops[k]? = some ok → k ≠ i → (listed.setIfInBounds j true).getD k true = false →
          (∀ e ∈ ok.after, Region.binds md e = true → e.on ≠ i) → oi.apart ops ok = true := fun k ok hk hki hun hno => by
        refine hfree k ok hk hki ?_ hno
        by_cases hjk : j = k
        · subst hjk; exact hjun
        · rw [getD_set_ne true hjk] at hun; exact hun
      refine wpOp_mono (fun a' w' h3 => ⟨fun _ => h3.2.1 hjn, ih (listed.setIfInBounds j true) a' w' (inv.set hj hjn) hfree' (ready_mono hr (Ne.symm hji)) h3.1 (h3.2.1 hjn) ?_⟩) h2
      rw [Array.setIfInBounds_comm _ _ hji]
      exact h3.2.2
theorem wpAnyS_done {n : Nat} {listed : Array Bool} {a : Act} {w : World} (hr : Region.ready md ops listed = []) (h : Q .normal a w) :
    ∀ fuel, wpAnyS P md ops Q S n fuel listed a w
  | 0 => ⟨hr, h⟩
  | _ + 1 => ⟨fun _ => h, by rw [hr]; simp⟩
theorem wp_region_tail {n id : Nat} {a : Act} {w : World} (hm : P.follows .mixedOrders = true) (hS : S w.drew)
    (h : S w.drew → HeadInv .any ops n (Array.replicate ops.size false) → wpAnyS P .any ops Q S n ops.size (Array.replicate ops.size false) a w.drew) (hn : n < ops.size) : (Code.region id ops true).wp P Q a w :=
  wp_region_any hm (wpAny_of_S _ _ _ _ (h hS ⟨by simp, fun j oj _ hl => (by rw [getD_replicate_false] at hl; cases hl), fun t _ ht => getD_in (by simpa using ht) (getD_replicate_false _ _)⟩))
theorem wpIn_region_tail_wr {l r n id : Nat} {a : Act} {w : World} (hm : P.follows .mixedOrders = true) (hd : ops.all (fun o => match o.op with | .defer _ => false | _ => true) = true) (hq : ¬ LetsOut Q) (hS : S w.drew)
    (h : S w.drew → HeadInv .any ops n (Array.replicate ops.size false) → wpAnyS P .any ops Q S n ops.size (Array.replicate ops.size false) a w.drew) (hn : n < ops.size) : (Code.region id ops true).wpIn (Fence.wide.inRound l) r P Q a w :=
  wpIn_region_draw fun t => by
    simp only [Region.schedule, hm, Bool.true_or, if_true]
    exact wpOps_wr (noDefer_spec hd) hq _ _ _ (wpAny_sound ops.size t _ a _ (wpAny_of_S _ _ _ _ (h hS ⟨by simp, fun j oj _ hl => (by rw [getD_replicate_false] at hl; cases hl), fun t _ ht => getD_in (by simpa using ht) (getD_replicate_false _ _)⟩)))
end
section
variable {P : Program} {L : List Oper} {Q : Exit → Act → World → Prop} {md : Region.Mode} {S : World → Prop} {n : Nat}
theorem takeS (i : Nat) {o : Oper} {v : Value} {fuel : Nat} {listed : Array Bool} {a : Act} {w : World} (T : TailAt md L.toArray n) (inv : HeadInv md L.toArray n listed) (hin : i < n) (hi : L[i]? = some o)
    (hs : Region.noSelect L.toArray = true) (hf : Region.free md L.toArray listed i = true) (hr : (Region.ready md L.toArray listed).contains i = true)
    (hQ : ∀ c a w, Q (.panic c) (a.put o.dst v) w → Q (.panic c) a w) (hw : Region.wanted o (yielded L.toArray a.tmps) = true) (hS : S w)
    (hy : ∀ w, S w → (execOp a.eval o).run P w = .ok (.value v) w)
    (h : HeadInv md L.toArray n (listed.setIfInBounds i true) → wpAnyS P md L.toArray Q S n fuel (listed.setIfInBounds i true) (a.put o.dst v) w) : wpAnyS P md L.toArray Q S n (fuel + 1) listed a w :=
  have hr' : i ∈ Region.ready md L.toArray listed := by simpa using hr
  wpAnyS_first T hin (by simpa using hi) (Region.noSelect_spec hs) hQ fuel listed a w inv (Region.free_spec (by simpa using hi) hf) hr' (.inl ⟨hw, hy⟩) hS (h (inv.set hr' hin))
theorem idleS (i : Nat) {o : Oper} {fuel : Nat} {listed : Array Bool} {a : Act} {w : World} (T : TailAt md L.toArray n) (inv : HeadInv md L.toArray n listed) (hin : i < n) (hi : L[i]? = some o)
    (hs : Region.noSelect L.toArray = true) (hf : Region.free md L.toArray listed i = true) (hr : (Region.ready md L.toArray listed).contains i = true)
    (hQ : ∀ c a w, Q (.panic c) (a.put o.dst undef) w → Q (.panic c) a w) (hw : Region.wanted o (yielded L.toArray a.tmps) = false) (hS : S w)
    (h : HeadInv md L.toArray n (listed.setIfInBounds i true) → wpAnyS P md L.toArray Q S n fuel (listed.setIfInBounds i true) (a.put o.dst undef) w) : wpAnyS P md L.toArray Q S n (fuel + 1) listed a w :=
  have hr' : i ∈ Region.ready md L.toArray listed := by simpa using hr
  wpAnyS_first T hin (by simpa using hi) (Region.noSelect_spec hs) hQ fuel listed a w inv (Region.free_spec (by simpa using hi) hf) hr' (.inr ⟨hw, rfl⟩) hS (h (inv.set hr' hin))
theorem oneS (i : Nat) {o : Oper} {fuel : Nat} {listed : Array Bool} {a : Act} {w : World} (inv : HeadInv md L.toArray n listed) (hin : i < n) (hi : L[i]? = some o) (hr : Region.ready md L.toArray listed = [i])
    (h : ∀ K' : Act → World → Prop, Shut (∀ a w, S w → (S w → HeadInv md L.toArray n (listed.setIfInBounds i true) → wpAnyS P md L.toArray Q S n fuel (listed.setIfInBounds i true) a w) → K' a w) → if Region.wanted o (yielded L.toArray a.tmps) = true then Oper.wp P o a w K' Q else K' (a.put o.dst undef) w) :
    wpAnyS P md L.toArray Q S n (fuel + 1) listed a w := by
  refine ⟨fun h0 => (by rw [hr] at h0; cases h0), fun j hj => ?_⟩
  rw [hr, List.mem_singleton] at hj
  subst hj
  exact wpOp_step (by simpa using hi) (fun K' hK => h K' (fun a w hS hW => hK a w ⟨fun _ => hS, hW hS (inv.set (by rw [hr]; simp) hin)⟩))
theorem twoS (i j : Nat) {o o' : Oper} {fuel : Nat} {listed : Array Bool} {a : Act} {w : World} (inv : HeadInv md L.toArray n listed) (hin : i < n) (hjn : j < n) (hi : L[i]? = some o) (hj : L[j]? = some o') (hr : Region.ready md L.toArray listed = [i, j])
    (h : ∀ K' : Act → World → Prop, Shut (∀ a w, S w → (S w → HeadInv md L.toArray n (listed.setIfInBounds i true) → wpAnyS P md L.toArray Q S n fuel (listed.setIfInBounds i true) a w) → K' a w) → if Region.wanted o (yielded L.toArray a.tmps) = true then Oper.wp P o a w K' Q else K' (a.put o.dst undef) w)
    (h' : ∀ K' : Act → World → Prop, Shut (∀ a w, S w → (S w → HeadInv md L.toArray n (listed.setIfInBounds j true) → wpAnyS P md L.toArray Q S n fuel (listed.setIfInBounds j true) a w) → K' a w) → if Region.wanted o' (yielded L.toArray a.tmps) = true then Oper.wp P o' a w K' Q else K' (a.put o'.dst undef) w) :
    wpAnyS P md L.toArray Q S n (fuel + 1) listed a w := by
  refine ⟨fun h0 => (by rw [hr] at h0; cases h0), fun k hk => ?_⟩
  rw [hr] at hk
  simp only [List.mem_cons, List.not_mem_nil, or_false] at hk
  rcases hk with rfl | rfl
  · exact wpOp_step (by simpa using hi) (fun K' hK => h K' (fun a w hS hW => hK a w ⟨fun _ => hS, hW hS (inv.set (by rw [hr]; simp) hin)⟩))
  · exact wpOp_step (by simpa using hj) (fun K' hK => h' K' (fun a w hS hW => hK a w ⟨fun _ => hS, hW hS (inv.set (by rw [hr]; simp) hjn)⟩))
theorem lastS (i : Nat) {o : Oper} {fuel : Nat} {listed : Array Bool} {a : Act} {w : World} (hi : L[i]? = some o) (hin : n ≤ i) (hr : Region.ready md L.toArray listed = [i])
    (h : ∀ K' : Act → World → Prop, Shut (∀ a w, wpAnyS P md L.toArray Q S n fuel (listed.setIfInBounds i true) a w → K' a w) → if Region.wanted o (yielded L.toArray a.tmps) = true then Oper.wp P o a w K' Q else K' (a.put o.dst undef) w) :
    wpAnyS P md L.toArray Q S n (fuel + 1) listed a w := by
  refine ⟨fun h0 => (by rw [hr] at h0; cases h0), fun j hj => ?_⟩
  rw [hr, List.mem_singleton] at hj
  subst hj
  exact wpOp_step (by simpa using hi) (fun K' hK => h K' (fun a w hW => hK a w ⟨fun h => absurd h (by omega), hW⟩))
end
end Go.Proofs.YtnjifmecaeagaaaDoor
end
section
set_option linter.unusedVariables false
namespace Go.Proofs.YtnjifmecaeagaaaDoor
open Go.RowKit

/-- the iterator calls its yield only where T holds of the element -/
def SeqTold {α : Type} (F : Fence) (n : Nat) (P : Program) (g : Nat) (lb : Array Value) (encs : α → Array Value) (Kp : World → World → Prop) (T : α → World → Prop) (S Sp : List α → Prop) (N : Nat) (w : World) : Prop :=
  ∀ (l : Nat) (J Jx : List α → World → Prop) (W : World), Below w.heap.size w W → AbidesFrom W.heap.size J → AbidesFrom W.heap.size Jx →
    (∀ pre x W1, J pre W1 → T x W1 → pre.length < N → YieldAt F (n - 1) P l (encs x) W1 fun e W' =>
      (e = .returned (.bool true) ∧ J (pre ++ [x]) W' ∧ Kp W1 W') ∨ (e = .returned (.bool false) ∧ Jx (pre ++ [x]) W')) →
    J [] W → CallsIn F n P g (#[.func (.yield l) #[] #[]] ++ lb) W fun e W' => (∃ v, e = .returned v) ∧ ((∃ xs, S xs ∧ J xs W') ∨ (∃ pre, Sp pre ∧ Jx pre W'))

section
variable {F : Fence} {n : Nat} {P : Program}
/-- a loop's two blocks: its record and the calls that its rounds put off -/
def Lp (L D : Nat) (r : Loop) (W : World) : Prop := W.heap[L]? = some (.loop r) ∧ W.heap[D]? = some (.deferred (some []))
theorem Lp.grown {L D : Nat} {r : Loop} {W W' : World} {row : Option Nat} (h : Lp L D r W) (hg : W.grownBy W' row) (hr : ∀ k, row = some k → ∃ o : Obj, W.heap[k]? = some o ∧ o.isWalk = true) : Lp L D r W' :=
  ⟨(grownBy_keeps hg hr h.1 rfl).trans h.1, (grownBy_keeps hg hr h.2 rfl).trans h.2⟩
theorem Lp.turn {L D : Nat} {r : Loop} {W : World} (h : Lp L D r W) (hne : L ≠ D) (r' : Loop) : Lp L D r' (W.putObj L (.loop r')) :=
  ⟨World.putObj_heap_same (Array.getElem?_eq_some_iff.1 h.1).1, (World.putObj_heap_other hne.symm).trans h.2⟩
theorem Lp.from {B L D : Nat} {r : Loop} {W W' : World} (h : Lp L D r W) (hk : KeepsFrom B W W') (hL : B ≤ L) (hD : B ≤ D) : Lp L D r W' := ⟨hk.same _ _ hL h.1 rfl, hk.same _ _ hD h.2 rfl⟩

theorem wpIn_rangeFunc_told {α : Type} {g : Operand} {ps : Array Tmp} {assign body : Code} {Q : Exit → Act → World → Prop} {a : Act} {w : World}
    (hro : F.round = none) (h1 : 1 ≤ n) {gf : Nat} {lb : Array Value} (hg : a.eval g = .func (.func gf) #[] lb) (hFg : F.fn gf) (eg : ∀ args w, (callFunc gf args).run P w = .ok (.enter gf args) w)
    {encs : α → Array Value} {Kp : World → World → Prop} {T : α → World → Prop} {S Sp : List α → Prop} {N : Nat} {w0 : World} (hseq : SeqTold F (n - 1) P gf lb encs Kp T S Sp N w0)
    (hKt : ∀ {A B C : World}, Kp A B → Kp B C → Kp A C) (hKb : ∀ (W : World) (l : Nat) (o o' : Obj), w.heap.size ≤ l → W.heap[l]? = some o → o.isCells = false → o.isWalk = false → Kp W (W.putObj l o')) (hb0 : Below w0.heap.size w0 w) (hps : ∀ x, (encs x).size = ps.size)
    (I : List α → World → Prop) (Ix : Code → List α → World → Prop) (hI : OwnFrom w.heap.size I) (hIx : ∀ c, OwnFrom w.heap.size (Ix c)) (h0 : I [] w) (Ax : α → Act → World → Prop) (hAx : ∀ x a', OwnFrom w.heap.size (fun (_ : Unit) W => Ax x a' W))
    (hassign : ∀ (l : Nat) (pre : List α) (x : α) (W : World) (K : Act → World → Prop), I pre W → T x W → (∀ a' W', KeepsFrom w.heap.size W W' → Kp W W' → I pre W' → Ax x a' W' → K a' W') →
      assign.wpIn (F.inRound l) (n - 1 - 1) P (Exit.then K (fun _ _ _ => False)) { tmps := (ps.zip (encs x)).foldl (fun t (p, v) => t.setIfInBounds p v) a.tmps, defers := [] } W)
    (hbody : ∀ (l : Nat) (pre : List α) (x : α) (a' : Act) (W : World), I pre W → Ax x a' W → pre.length < N → body.wpIn (F.inRound l) (n - 1 - 1) P (ownPostG w.heap.size Kp I Ix (pre ++ [x]) W) a' W)
    (hdone : ∀ (D : Nat) (xs : List α) (W : World), w.heap.size ≤ D → S xs → I xs W → W.heap[D]? = some (.deferred (some [])) → Q .normal { a with defers := { target := .collected D, args := #[] } :: a.defers } W)
    (hstop : ∀ (D : Nat) (c : Code) (pre : List α) (W : World), w.heap.size ≤ D → Sp pre → Ix c pre W → W.heap[D]? = some (.deferred (some [])) → c.wpIn F n P Q { a with defers := { target := .collected D, args := #[] } :: a.defers } W) :
    (Code.rangeFunc g ps assign body).wpIn F n P Q a w := by
  refine wpIn_rangeFunc ?_
  intro fn hfn
  rw [hro]
  obtain ⟨R, hR⟩ : ∃ R : LoopState → Option Code → Loop, R = fun st pe => { state := st, pending := pe, fn, tmps := a.tmps, params := ps, assign, body, defers := w.heap.size } := ⟨_, rfl⟩
  obtain ⟨W1, hW1⟩ : ∃ W1, W1 = (w.alloc (.deferred (some []))).alloc (.loop (R .ready none)) := ⟨_, rfl⟩
  have hen : (Instr.enterLoop fn a.tmps ps assign body none).run P w = .ok (w.heap.size + 1, [{ target := .collected w.heap.size, args := #[] }]) W1 := by
    rw [hW1, hR]; exact run_enterLoop_outer _ _ _ _ _
  have hlp : Lp (w.heap.size + 1) w.heap.size (R .ready none) W1 := by
    have q := World.alloc_heap_new (w.alloc (.deferred (some []))) (.loop (R .ready none))
    rw [World.size_alloc] at q
    rw [hW1]
    exact ⟨q, (Below.heap_alloc _ _ _ (by simp)).trans (World.alloc_heap_new w _)⟩
  have hi1 : I [] W1 := by rw [hW1]; exact hI.alloc _ (hI.alloc _ h0)
  have hb1 : Below w0.heap.size w0 W1 := by rw [hW1]; exact hb0.trans ((((Below.refl w.heap.size w).alloc (Nat.le_refl _) _).alloc (by simp) _).mono hb0.size)
  have hs1 : w.heap.size ≤ W1.heap.size := by rw [hW1]; simp; omega
  have hne : w.heap.size + 1 ≠ w.heap.size := by omega
  clear hW1
  refine ⟨_, _, W1, { target := .fn (.func gf) lb, args := #[.func (.yield (w.heap.size + 1)) #[] #[]] }, W1, gf, #[.func (.yield (w.heap.size + 1)) #[] #[]] ++ lb, W1, hen,
    by simp only [resolve, hg]; simp [go_sem], fun f' hf' => by simp [Target.leads] at hf'; subst hf'; exact hFg, by simp [invoke, go_sem, eg], fun _ => h1, ?_⟩
  clear hen
  have hrow : ∀ {A : World} {row : Option Nat}, (∀ r, row = some r → W1.heap.size ≤ r ∧ ∃ o : Obj, A.heap[r]? = some o ∧ o.isWalk = true) → (∀ r, row = some r → w.heap.size ≤ r ∧ ∃ o : Obj, A.heap[r]? = some o ∧ o.isCells = false) := fun h r e => by
    obtain ⟨q, o, ho, hw⟩ := h r e
    exact ⟨Nat.le_trans hs1 q, o, ho, Obj.not_cells_of_walk hw⟩
  have hend : ∀ (j : Option Code) (W3 : World), Lp (w.heap.size + 1) w.heap.size { R .ready none with state := .busy } W3 →
      (Instr.endRound (w.heap.size + 1) j).run P W3 = .ok (.bool j.isNone) (W3.putObj (w.heap.size + 1) (.loop (R (if j.isNone then .ready else .done) j))) := fun j W3 h => by
    have := run_endRound (P := P) j h.1
    rw [hR] at this ⊢
    exact this
  refine (hseq (w.heap.size + 1) (fun pre W => I pre W ∧ Lp (w.heap.size + 1) w.heap.size (R .ready none) W) (fun pre W => ∃ c, Ix c pre W ∧ Lp (w.heap.size + 1) w.heap.size (R .done (some c)) W) W1 hb1
    (fun s A B row hs hg hr => ⟨hI s A B row hs.1 hg (hrow hr), hs.2.grown hg (fun k e => (hr k e).2)⟩)
    (fun s A B row ⟨c, hc, hl⟩ hg hr => ⟨c, hIx c s A B row hc hg (hrow hr), hl.grown hg (fun k e => (hr k e).2)⟩) ?_ ⟨hi1, hlp⟩).mono ?_
  · rintro pre x W ⟨hi, hl⟩ hT hlen
    have hy := run_yield (P := P) (args := encs x) hl.1 (by rw [hR]; exact hps x)
    rw [hR] at hy
    refine ⟨fn, _, assign, body, hy, roundIn_of_wpIn hfn (hassign _ pre x W _ hi hT ?_)⟩
    intro a' Wa hk hkp hia hax
    have hla := hl.from hk (by omega) (Nat.le_refl _)
    have hlb := hla.turn hne { R .ready none with state := .busy }
    have hkb := hKt hkp (hKb Wa _ _ (.loop { R .ready none with state := .busy }) (by omega) hla.1 rfl rfl)
    refine ⟨_, run_beginRound hla.1 (by rw [hR]), wpIn_mono (hbody _ pre x a' _ (hI.putObj _ hia (by omega) hla.1 rfl) ((hAx x a').putObj (s := ()) _ hax (by omega) hla.1 rfl) hlen) ?_⟩
    rintro e a3 W3 hp
    have stop : ∀ c, KeepsFrom w.heap.size (Wa.putObj (w.heap.size + 1) (.loop { R .ready none with state := .busy })) W3 ∧ Ix c (pre ++ [x]) W3 →
        Ix c (pre ++ [x]) (W3.putObj (w.heap.size + 1) (.loop (R .done (some c)))) ∧ Lp (w.heap.size + 1) w.heap.size (R .done (some c)) (W3.putObj (w.heap.size + 1) (.loop (R .done (some c)))) := fun c h => by
      have h3 := hlb.from h.1 (by omega) (Nat.le_refl _)
      exact ⟨(hIx c).putObj _ h.2 (by omega) h3.1 rfl, h3.turn hne _⟩
    cases e with
    | normal =>
      obtain ⟨hk3, hkp3, hi3⟩ := hp
      have h3 := hlb.from hk3 (by omega) (Nat.le_refl _)
      exact ⟨_, _, hend none W3 h3, .inl ⟨rfl, ⟨hI.putObj _ hi3 (by omega) h3.1 rfl, h3.turn hne _⟩, hKt hkb (hKt hkp3 (hKb _ _ _ _ (by omega) h3.1 rfl rfl))⟩⟩
    | ret => exact ⟨_, _, hend (some .ret) W3 (hlb.from hp.1 (by omega) (Nat.le_refl _)), .inr ⟨rfl, .ret, stop _ hp⟩⟩
    | exit id => exact ⟨_, _, hend (some (.exit id)) W3 (hlb.from hp.1 (by omega) (Nat.le_refl _)), .inr ⟨rfl, .exit id, stop _ hp⟩⟩
    | goto t => exact ⟨_, _, hend (some (.goto t)) W3 (hlb.from hp.1 (by omega) (Nat.le_refl _)), .inr ⟨rfl, .goto t, stop _ hp⟩⟩
    | panic ch => exact hp.elim
    | outgrown => exact hp.elim
  · rintro e W2 ⟨⟨v, rfl⟩, (⟨xs, hS, hi, hl⟩ | ⟨pre, hSp, c, hi, hl⟩)⟩
    · have q := run_endLoop (P := P) hl.1 (by rw [hR]; simp)
      rw [hR] at q
      exact ⟨none, _, q, hdone _ xs _ (Nat.le_refl _) hS (hI.putObj _ hi (by omega) hl.1 rfl) ((World.putObj_heap_other (by omega)).trans hl.2)⟩
    · have q := run_endLoop (P := P) hl.1 (by rw [hR]; simp)
      rw [hR] at q
      exact ⟨some c, _, q, hstop _ c pre _ (Nat.le_refl _) hSp ((hIx c).putObj _ hi (by omega) hl.1 rfl) ((World.putObj_heap_other (by omega)).trans hl.2)⟩
end
end Go.Proofs.YtnjifmecaeagaaaDoor
end
