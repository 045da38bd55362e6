/-
  Package index: its mathematics: what is taken, kept, dropped and freed; the table; live blocks.
-/
import Derived.Test.YtnjifmecaeagaaaDoorTiM
set_option linter.unusedVariables false
set_option linter.unusedSimpArgs false
namespace Go.Proofs.YtnjifmecaeagaaaDoor
def TiledF (x : Nat → Nat) (n : Nat) : Prop := ∀ i, i < n → ((∃ k, k < i ∧ kN (x k) = 2 ∧ i < k + mN (x k)) ↔ kN (x i) = 3) ∧ (kN (x i) = 2 → i + mN (x i) ≤ n)
theorem tailB_iff (t : List Nat) (n i : Nat) : tailB t n i = true ↔ ∃ k, k < n ∧ kN (t.getD k 0) = 2 ∧ i < k + mN (t.getD k 0) := by
  unfold tailB
  rw [List.any_eq_true]
  simp only [List.mem_range, Bool.and_eq_true, decide_eq_true_eq]
theorem right_tiled (t : List Nat) : rightT t = true ↔ t.all okN = true ∧ TiledF (fun i => t.getD i 0) t.length := by
  rw [← right_same, refRightB, Bool.and_eq_true]
  refine and_congr_right fun hok => ?_
  unfold refRightN
  rw [List.all_eq_true]
  constructor
  · intro h i hi
    have := h i (List.mem_range.2 hi)
    simp only [Bool.and_eq_true, beq_iff_eq, Bool.not_eq_true', Bool.and_eq_false_iff, decide_eq_false_iff_not] at this
    refine ⟨?_, fun h2 => ?_⟩
    · rw [← tailB_iff, this.1, decide_eq_true_iff]
    · rcases this.2 with q | q
      · exact absurd h2 q
      · have e : kN (t.getD i 0) = 2 := h2
        show i + mN (t.getD i 0) ≤ t.length
        omega
  · intro h i hi
    have hi := List.mem_range.1 hi
    obtain ⟨h1, h2⟩ := h i hi
    simp only [Bool.and_eq_true, beq_iff_eq, Bool.not_eq_true', Bool.and_eq_false_iff, decide_eq_false_iff_not]
    refine ⟨?_, ?_⟩
    · rw [Bool.eq_iff_iff, tailB_iff, decide_eq_true_iff]; exact h1
    · by_cases k2 : kN (t.getD i 0) = 2
      · right; have : i + mN (t.getD i 0) ≤ t.length := h2 k2; omega
      · exact .inl k2
/-- two huge ones don't meet -/
theorem tiled_apart {x : Nat → Nat} {n a b i : Nat} (h : TiledF x n) (ha : a < n) (hb : b < n) (k1 : kN (x a) = 2) (k2 : kN (x b) = 2) (h1 : a ≤ i) (h2 : i < a + mN (x a)) (h3 : b ≤ i) (h4 : i < b + mN (x b)) : a = b := by
  rcases Nat.lt_trichotomy a b with q | q | q
  · have := (h b hb).1.1 ⟨a, q, k1, by omega⟩
    omega
  · exact q
  · have := (h a ha).1.1 ⟨b, q, k2, by omega⟩
    omega
/-- what is no tail and no huge one may turn into another such -/
theorem tiled_set {x y : Nat → Nat} {n i : Nat} (h : TiledF x n) (h1 : ¬ kN (x i) = 2) (h2 : ¬ kN (x i) = 3) (g1 : ¬ kN (y i) = 2) (g2 : ¬ kN (y i) = 3) (he : ∀ j, j ≠ i → y j = x j) : TiledF y n := by
  intro j hj
  obtain ⟨q1, q2⟩ := h j hj
  have hx : (∃ k, k < j ∧ kN (y k) = 2 ∧ j < k + mN (y k)) ↔ ∃ k, k < j ∧ kN (x k) = 2 ∧ j < k + mN (x k) := by
    constructor
    · rintro ⟨k, a, b, c⟩
      by_cases e : k = i
      · subst e; exact absurd b g1
      · rw [he k e] at b c; exact ⟨k, a, b, c⟩
    · rintro ⟨k, a, b, c⟩
      by_cases e : k = i
      · subst e; exact absurd b h1
      · rw [← he k e] at b c; exact ⟨k, a, b, c⟩
  rw [hx]
  by_cases e : j = i
  · subst e
    exact ⟨⟨fun q => absurd (q1.1 q) h2, fun q => absurd q g2⟩, fun q => absurd q g1⟩
  · rw [he j e]; exact ⟨q1, q2⟩
/-- a huge one is laid where none was -/
theorem tiled_huge {x y : Nat → Nat} {n a m : Nat} (h : TiledF x n) (hm : 1 ≤ m) (ha : a + m ≤ n) (hf : ∀ j, a ≤ j → j < a + m → ¬ kN (x j) = 2 ∧ ¬ kN (x j) = 3) (ya : kN (y a) = 2) (ym : mN (y a) = m) (yt : ∀ j, a < j → j < a + m → kN (y j) = 3) (he : ∀ j, (j < a ∨ a + m ≤ j) → y j = x j) : TiledF y n := by
  intro j hj
  obtain ⟨q1, q2⟩ := h j hj
  by_cases e1 : j < a
  · rw [he j (.inl e1)]
    refine ⟨?_, q2⟩
    rw [← q1]
    constructor
    · rintro ⟨k, p, q, r⟩
      rw [he k (.inl (by omega))] at q r
      exact ⟨k, p, q, r⟩
    · rintro ⟨k, p, q, r⟩
      rw [← he k (.inl (by omega))] at q r
      exact ⟨k, p, q, r⟩
  · by_cases e2 : a + m ≤ j
    · rw [he j (.inr e2)]
      refine ⟨?_, q2⟩
      rw [← q1]
      constructor
      · rintro ⟨k, p, q, r⟩
        by_cases f1 : k < a ∨ a + m ≤ k
        · rw [he k f1] at q r; exact ⟨k, p, q, r⟩
        · by_cases f2 : k = a
          · subst f2; omega
          · have := yt k (by omega) (by omega); omega
      · rintro ⟨k, p, q, r⟩
        by_cases f1 : k < a ∨ a + m ≤ k
        · rw [← he k f1] at q r; exact ⟨k, p, q, r⟩
        · exact absurd q (hf k (by omega) (by omega)).1
    · by_cases e3 : j = a
      · subst e3
        refine ⟨⟨fun ⟨k, p, q, r⟩ => ?_, fun q => by omega⟩, fun _ => by omega⟩
        rw [he k (.inl p)] at q r
        exact absurd (q1.1 ⟨k, p, q, r⟩) (hf j (Nat.le_refl _) (by omega)).2
      · have hk := yt j (by omega) (by omega)
        exact ⟨⟨fun _ => hk, fun _ => ⟨a, by omega, ya, by omega⟩⟩, fun q => by omega⟩
/-- a huge one is no more -/
theorem tiled_clear {x y : Nat → Nat} {n a : Nat} (h : TiledF x n) (ha : a < n) (k2 : kN (x a) = 2) (hy : ∀ j, a ≤ j → j < a + mN (x a) → kN (y j) = 0) (he : ∀ j, (j < a ∨ a + mN (x a) ≤ j) → y j = x j) : TiledF y n := by
  have hm := (h a ha).2 k2
  intro j hj
  obtain ⟨q1, q2⟩ := h j hj
  by_cases e : j < a ∨ a + mN (x a) ≤ j
  · rw [he j e]
    refine ⟨?_, q2⟩
    rw [← q1]
    constructor
    · rintro ⟨k, p, q, r⟩
      by_cases f1 : k < a ∨ a + mN (x a) ≤ k
      · rw [he k f1] at q r; exact ⟨k, p, q, r⟩
      · have := hy k (by omega) (by omega); omega
    · rintro ⟨k, p, q, r⟩
      by_cases f1 : k < a ∨ a + mN (x a) ≤ k
      · rw [← he k f1] at q r; exact ⟨k, p, q, r⟩
      · by_cases f2 : k = a
        · subst f2; omega
        · have := (h k (by omega)).1.1 ⟨a, by omega, k2, by omega⟩; omega
  · have h0 := hy j (by omega) (by omega)
    refine ⟨⟨fun ⟨k, p, q, r⟩ => ?_, fun q => by omega⟩, fun q => by omega⟩
    by_cases f1 : k < a ∨ a + mN (x a) ≤ k
    · rw [he k f1] at q r
      have := tiled_apart h ha (show k < n by omega) k2 q (show a ≤ j by omega) (by omega) (by omega) r
      omega
    · have := hy k (by omega) (by omega); omega

/-- what an index knows of a chunk: its word, which blocks are live, which are taken -/
abbrev St := Nat × Nat × Nat
structure StOk (s : St) : Prop where
  ok : okN s.1 = true
  run : kN s.1 = 1 → s.2.1 < 2 ^ mnN (cN s.1) ∧ s.2.2 < 2 ^ mnN (cN s.1) ∧ s.2.1 &&& s.2.2 = 0
  huge : kN s.1 = 2 → (s.2.1 = 1 ∧ s.2.2 = 0) ∨ (s.2.1 = 0 ∧ s.2.2 = 1)
  none : ¬ kN s.1 = 1 → ¬ kN s.1 = 2 → s.2.1 = 0 ∧ s.2.2 = 0
abbrev gS (S : List St) (i : Nat) : St := S.getD i default
structure SOk (S : List St) : Prop where
  each : ∀ i, i < S.length → StOk (gS S i)
  tiled : TiledF (fun i => (gS S i).1) S.length
def hadS (s : St) : Bool := decide (kN s.1 = 0) || decide (kN s.1 = 1 ∧ s.2.1 ||| s.2.2 = 0)
def wordS (s : St) : Nat := if kN s.1 = 1 then s.1 % 16777216 + 16777216 * s.2.1 else s.1
/-- is a chunk one of a huge one that is taken -/
def goneB (S : List St) (i : Nat) : Bool := (List.range (i + 1)).any fun k => decide (kN (gS S k).1 = 2 ∧ ¬ (gS S k).2.2 = 0 ∧ i < k + mN (gS S k).1)
def tableS (S : List St) : List Nat := (List.range S.length).map fun i => if goneB S i then 0 else wordS (gS S i)
theorem goneB_iff (S : List St) (i : Nat) : goneB S i = true ↔ ∃ k, k ≤ i ∧ kN (gS S k).1 = 2 ∧ ¬ (gS S k).2.2 = 0 ∧ i < k + mN (gS S k).1 := by
  unfold goneB
  rw [List.any_eq_true]
  constructor
  · rintro ⟨k, hk, h⟩
    exact ⟨k, by have := List.mem_range.1 hk; omega, of_decide_eq_true h⟩
  · rintro ⟨k, hk, h⟩
    exact ⟨k, List.mem_range.2 (by omega), decide_eq_true h⟩
theorem table_len (S : List St) : (tableS S).length = S.length := by simp [tableS]
theorem table_at (S : List St) {i : Nat} (hi : i < S.length) : (tableS S).getD i 0 = if goneB S i then 0 else wordS (gS S i) := by
  unfold tableS
  rw [List.getD_eq_getElem?_getD, List.getElem?_map, List.getElem?_range hi]
  rfl
theorem pow_mn (c : Nat) : 2 ^ mnN c ≤ 256 := Nat.pow_le_pow_right (n := 2) (by omega) (mnN_le c)
theorem word_parts2 {s : St} (h : StOk s) (hk : kN s.1 = 1) : kN (wordS s) = 1 ∧ cN (wordS s) = cN s.1 ∧ bN (wordS s) = s.2.1 ∧ okN (wordS s) = true := by
  have h1 := (h.run hk).1
  have hp := pow_mn (cN s.1)
  have hr := okN_t h.ok
  unfold wordS
  rw [if_pos hk]
  have e1 : kN (s.1 % 16777216 + 16777216 * s.2.1) = kN s.1 := by unfold kN; omega
  have e2 : cN (s.1 % 16777216 + 16777216 * s.2.1) = cN s.1 := by unfold cN; omega
  have e3 : lnN (s.1 % 16777216 + 16777216 * s.2.1) = lnN s.1 := by unfold lnN; omega
  have e4 : mN (s.1 % 16777216 + 16777216 * s.2.1) = mN s.1 := by unfold mN; omega
  have e5 : bN (s.1 % 16777216 + 16777216 * s.2.1) = s.2.1 := by unfold bN; omega
  refine ⟨by rw [e1, hk], e2, e5, decide_eq_true ?_⟩
  unfold RightN at hr ⊢
  rw [e1, e2, e3, e4, e5]
  refine ⟨by omega, .inr (.inl ?_)⟩
  have hc : cN s.1 = 0 ∨ cN s.1 = 1 ∨ cN s.1 = 2 := by omega
  refine ⟨hk, by omega, by omega, ?_⟩
  rcases hc with q | q | q
  · rw [q] at h1 ⊢; simp [mnN] at h1 ⊢; omega
  · rw [q] at h1 ⊢; simp [mnN] at h1 ⊢; omega
  · rw [q] at h1 ⊢; simp [mnN] at h1 ⊢; omega
theorem word_ok {s : St} (h : StOk s) : okN (wordS s) = true := by
  by_cases hk : kN s.1 = 1
  · exact (word_parts2 h hk).2.2.2
  · unfold wordS; rw [if_neg hk]; exact h.ok
theorem table_ok {S : List St} (h : SOk S) : (tableS S).all okN = true := by
  rw [List.all_eq_true]
  intro x hx
  obtain ⟨i, hi, rfl⟩ := List.mem_map.1 hx
  split
  · decide
  · exact word_ok (h.each i (List.mem_range.1 hi))
/-- the live blocks of a chunk -/
def sAt (i : Nat) (s : St) : List Bl := if kN s.1 = 1 then (liveL s.2.1 (mnN (cN s.1))).map (fun j => (i, j, blN (cN s.1))) else if kN s.1 = 2 ∧ s.2.2 = 0 then [(i, 0, mN s.1 * 32)] else []
def sFrom : Nat → List St → List Bl
  | _, [] => []
  | o, s :: t => sAt o s ++ sFrom (o + 1) t
theorem gone_kind {S : List St} (h : SOk S) {i : Nat} (hi : i < S.length) (hg : goneB S i = true) : (kN (gS S i).1 = 2 ∧ ¬ (gS S i).2.2 = 0) ∨ kN (gS S i).1 = 3 := by
  obtain ⟨k, h1, h2, h3, h4⟩ := (goneB_iff S i).1 hg
  by_cases e : k = i
  · subst e; exact .inl ⟨h2, h3⟩
  · exact .inr ((h.tiled i hi).1.1 ⟨k, by omega, h2, h4⟩)
theorem blksAt_none {i x : Nat} (h1 : ¬ kN x = 1) (h2 : ¬ kN x = 2) : blksAt i x = [] := by unfold blksAt; rw [if_neg h1, if_neg h2]
theorem sAt_none {i : Nat} {s : St} (h1 : ¬ kN s.1 = 1) (h2 : ¬ kN s.1 = 2) : sAt i s = [] := by unfold sAt; rw [if_neg h1, if_neg (fun h => h2 h.1)]
theorem blks_word {S : List St} (h : SOk S) {i : Nat} (hi : i < S.length) : blksAt i (if goneB S i then 0 else wordS (gS S i)) = sAt i (gS S i) := by
  by_cases hg : goneB S i = true
  · rw [if_pos hg, blksAt_none (by decide) (by decide)]
    rcases gone_kind h hi hg with q | q
    · unfold sAt; rw [if_neg (by omega), if_neg (fun h => q.2 h.2)]
    · rw [sAt_none (by omega) (by omega)]
  · rw [if_neg hg]
    by_cases k1 : kN (gS S i).1 = 1
    · obtain ⟨e1, e2, e3, _⟩ := word_parts2 (h.each i hi) k1
      unfold blksAt sAt
      rw [if_pos e1, if_pos k1, e2, e3]
    · unfold wordS
      rw [if_neg k1]
      by_cases k2 : kN (gS S i).1 = 2
      · have h0 : (gS S i).2.2 = 0 := by
          refine Classical.byContradiction fun q => hg ((goneB_iff S i).2 ⟨i, Nat.le_refl _, k2, q, ?_⟩)
          have hr := okN_t (h.each i hi).ok
          unfold RightN at hr
          omega
        unfold blksAt sAt
        rw [if_neg k1, if_pos k2, if_neg k1, if_pos ⟨k2, h0⟩]
      · rw [blksAt_none k1 k2, sAt_none k1 k2]
theorem blksFrom_ext : ∀ (o : Nat) (t : List Nat) (S : List St), t.length = S.length → (∀ i, i < S.length → blksAt (o + i) (t.getD i 0) = sAt (o + i) (gS S i)) → blksFrom o t = sFrom o S
  | _, [], [], _, _ => rfl
  | _, [], _ :: _, h, _ => by simp at h
  | _, _ :: _, [], h, _ => by simp at h
  | o, x :: t, s :: S, hl, h => by
    rw [blksFrom, sFrom]
    have h0 := h 0 (by simp)
    rw [Nat.add_zero] at h0
    have h2 := blksFrom_ext (o + 1) t S (by simpa using hl) (fun i hi => by
      have := h (i + 1) (by simpa using hi)
      rw [show o + 1 + i = o + (i + 1) by omega]
      exact this)
    have e0 : blksAt o x = sAt o s := h0
    rw [e0, h2]
theorem blks_table {S : List St} (h : SOk S) : blksT (tableS S) = sFrom 0 S := by
  unfold blksT
  rw [if_pos (table_ok h)]
  refine blksFrom_ext 0 _ _ (table_len S) (fun i hi => ?_)
  rw [table_at S hi, Nat.zero_add]
  exact blks_word h hi
/-- how many live blocks -/
def cntS (s : St) : Nat := (sAt 0 s).length
theorem sAt_len (i : Nat) (s : St) : (sAt i s).length = cntS s := by
  unfold cntS sAt
  split
  · simp
  · split <;> simp
theorem sFrom_len : ∀ (o : Nat) (S : List St), (sFrom o S).length = (S.map cntS).sum
  | _, [] => rfl
  | o, s :: S => by rw [sFrom, List.length_append, sAt_len, sFrom_len, List.map_cons, List.sum_cons]
theorem sum_set : ∀ (S : List St) (i : Nat) (s : St), i < S.length → ((S.set i s).map cntS).sum + cntS (gS S i) = (S.map cntS).sum + cntS s
  | [], i, s, h => by simp at h
  | x :: S, 0, s, _ => by
    simp only [List.set_cons_zero, List.map_cons, List.sum_cons, gS, List.getD_cons_zero]; omega
  | x :: S, i + 1, s, h => by
    have := sum_set S i s (by simpa using h)
    simp only [List.set_cons_succ, List.map_cons, List.sum_cons, gS, List.getD_cons_succ] at this ⊢; omega
theorem sFrom_mem : ∀ (o : Nat) (S : List St) (b : Bl), b ∈ sFrom o S ↔ ∃ i, i < S.length ∧ b ∈ sAt (o + i) (gS S i)
  | _, [], b => by simp [sFrom]
  | o, s :: S, b => by
    rw [sFrom, List.mem_append, sFrom_mem (o + 1) S b]
    constructor
    · rintro (h | ⟨i, hi, h⟩)
      · exact ⟨0, by simp, h⟩
      · exact ⟨i + 1, by simpa using hi, by rw [show o + (i + 1) = o + 1 + i by omega]; exact h⟩
    · rintro ⟨i, hi, h⟩
      cases i with
      | zero => exact .inl h
      | succ i => exact .inr ⟨i, by simpa using hi, by rw [show o + 1 + i = o + (i + 1) by omega]; exact h⟩
/-- the lowest block that is neither live nor taken -/
def firstOff (b m : Nat) : Option Nat := (List.range m).find? fun j => !b.testBit j
def runAt (of : Nat) (s : St) : Bool := decide (kN s.1 = 1) && decide (cN s.1 = of) && (firstOff (s.2.1 ||| s.2.2) (mnN of)).isSome
/-- so many chunks in a row that can be had begin here -/
def rowHere (S : List St) (m a : Nat) : Prop := a + m ≤ S.length ∧ ∀ k, k < m → hadS (gS S (a + k)) = true
def fillS (S : List St) (a : Nat) (s : St) : Nat → List St
  | 0 => S
  | m + 1 => (fillS S a s m).set (a + m) s
theorem fill_len (S : List St) (a : Nat) (s : St) : ∀ m, (fillS S a s m).length = S.length
  | 0 => rfl
  | m + 1 => by rw [fillS, List.length_set, fill_len S a s m]
theorem getD_set {α : Type} (l : List α) (j : Nat) (x d : α) (i : Nat) : (l.set j x).getD i d = if i = j ∧ j < l.length then x else l.getD i d := by
  simp only [List.getD_eq_getElem?_getD, List.getElem?_set]
  by_cases e : j = i
  · subst e
    by_cases h : j < l.length
    · rw [if_pos rfl, if_pos h, if_pos ⟨rfl, h⟩]; rfl
    · rw [if_pos rfl, if_neg h, if_neg (fun q => h q.2), List.getElem?_eq_none (by omega)]
  · rw [if_neg e, if_neg (fun q => e q.1.symm)]
theorem fill_at (S : List St) (a : Nat) (s : St) : ∀ m, a + m ≤ S.length → ∀ i, gS (fillS S a s m) i = if a ≤ i ∧ i < a + m then s else gS S i
  | 0, _, i => by rw [fillS, if_neg (by omega)]
  | m + 1, h, i => by
    rw [fillS, gS, getD_set, fill_len]
    by_cases e : i = a + m
    · rw [if_pos ⟨e, by omega⟩, if_pos (by omega)]
    · rw [if_neg (fun q => e q.1)]
      have := fill_at S a s m (by omega) i
      rw [gS] at this
      rw [this]
      by_cases q : a ≤ i ∧ i < a + m
      · rw [if_pos q, if_pos (by omega)]
      · rw [if_neg q, if_neg (by omega)]
structure Plc where
  ch : Nat
  ix : Nat
  cl : Int
  mn : Nat
  fr : Bool
/-- what is taken for an object of a class (of), or of so many chunks -/
inductive TakeR (S : List St) : Option Nat → Nat → List St → Option Plc → Prop
  | run {c m i j : Nat} : i < S.length → kN (gS S i).1 = 1 → cN (gS S i).1 = c → firstOff ((gS S i).2.1 ||| (gS S i).2.2) (mnN c) = some j → (∀ k, k < i → runAt c (gS S k) = false) →
      TakeR S (some c) m (S.set i ((gS S i).1, (gS S i).2.1, (gS S i).2.2 ||| 2 ^ j)) (some ⟨i, j, c, 0, false⟩)
  | fresh {c m i : Nat} : (∀ k, k < S.length → runAt c (gS S k) = false) → rowHere S 1 i → (∀ k, k < i → ¬ rowHere S 1 k) → TakeR S (some c) m (S.set i (1 + 8 * c, 0, 1)) (some ⟨i, 0, c, 0, true⟩)
  | full {c m : Nat} : (∀ k, k < S.length → runAt c (gS S k) = false) → (∀ k, ¬ rowHere S 1 k) → TakeR S (some c) m S none
  | huge {m a : Nat} : rowHere S m a → (∀ k, k < a → ¬ rowHere S m k) → TakeR S none m ((fillS S (a + 1) (3, 0, 0) (m - 1)).set a (2 + 2048 * m, 0, 1)) (some ⟨a, 0, -1, m, false⟩)
  | fullH {m : Nat} : (∀ k, ¬ rowHere S m k) → TakeR S none m S none
theorem firstOff_t {b m j : Nat} (h : firstOff b m = some j) : j < m ∧ b.testBit j = false := by
  unfold firstOff at h
  have h1 := List.mem_of_find?_eq_some h
  have h2 := List.find?_some h
  exact ⟨List.mem_range.1 h1, by simpa using h2⟩
theorem firstOff_n {b m : Nat} (h : firstOff b m = none) : ∀ j, j < m → b.testBit j = true := fun j hj => by
  unfold firstOff at h
  have := List.find?_eq_none.1 h j (List.mem_range.2 hj)
  simpa using this
/-- the bit of a place; 0, if it is none -/
def bitS (S : List St) (ch ix cl mn : Int) : Nat :=
  if 0 ≤ ch ∧ ch < S.length then
    (if kN (gS S ch.toNat).1 = 1 ∧ cl = (cN (gS S ch.toNat).1 : Nat) ∧ 0 ≤ ix ∧ ix < (mnN (cN (gS S ch.toNat).1) : Nat) then 2 ^ ix.toNat
     else if kN (gS S ch.toNat).1 = 2 ∧ cl = -1 ∧ ix = 0 ∧ mn = (mN (gS S ch.toNat).1 : Nat) then 1 else 0)
  else 0
def clrN (a b : Nat) : Nat := a ^^^ (a &&& b)
def vacS (S : List St) (ch cl mn : Int) : List St := if cl = -1 then fillS S ch.toNat (0, 0, 0) mn.toNat else S
def dropS (S : List St) (ch ix cl mn : Int) : Bool × List St :=
  if bitS S ch ix cl mn = 0 ∨ (gS S ch.toNat).2.2 &&& bitS S ch ix cl mn = 0 then (false, S)
  else (true, vacS (S.set ch.toNat ((gS S ch.toNat).1, (gS S ch.toNat).2.1, clrN (gS S ch.toNat).2.2 (bitS S ch ix cl mn))) ch cl mn)
def keepS (S : List St) (ch ix cl mn : Int) : Bool × List St :=
  if bitS S ch ix cl mn = 0 ∨ (gS S ch.toNat).2.2 &&& bitS S ch ix cl mn = 0 then (false, S)
  else (true, S.set ch.toNat ((gS S ch.toNat).1, (gS S ch.toNat).2.1 ||| bitS S ch ix cl mn, clrN (gS S ch.toNat).2.2 (bitS S ch ix cl mn)))
def freeS (S : List St) (ch ix cl mn : Int) : Bool × List St :=
  if bitS S ch ix cl mn = 0 ∨ (gS S ch.toNat).2.1 &&& bitS S ch ix cl mn = 0 then (false, S)
  else (true, vacS (S.set ch.toNat ((gS S ch.toNat).1, clrN (gS S ch.toNat).2.1 (bitS S ch ix cl mn), (gS S ch.toNat).2.2)) ch cl mn)
theorem gS_set (S : List St) (j : Nat) (s : St) (i : Nat) (h : j < S.length) : gS (S.set j s) i = if i = j then s else gS S i := by
  unfold gS
  rw [getD_set]
  by_cases e : i = j
  · rw [if_pos ⟨e, h⟩, if_pos e]
  · rw [if_neg (fun q => e q.1), if_neg e]
theorem sFrom_ext : ∀ (o : Nat) (S S' : List St), S'.length = S.length → (∀ i, i < S.length → sAt (o + i) (gS S' i) = sAt (o + i) (gS S i)) → sFrom o S' = sFrom o S
  | _, [], [], _, _ => rfl
  | _, [], _ :: _, h, _ => by simp at h
  | _, _ :: _, [], h, _ => by simp at h
  | o, s :: S, s' :: S', hl, h => by
    rw [sFrom, sFrom]
    have h0 := h 0 (by simp)
    rw [Nat.add_zero] at h0
    have h2 := sFrom_ext (o + 1) S S' (by simpa using hl) (fun i hi => by
      have := h (i + 1) (by simpa using hi)
      rw [show o + 1 + i = o + (i + 1) by omega]
      exact this)
    have e0 : sAt o s' = sAt o s := h0
    rw [e0, h2]
theorem had_t {s : St} (hk : StOk s) (h : hadS s = true) : ¬ kN s.1 = 2 ∧ ¬ kN s.1 = 3 ∧ s.2.1 = 0 ∧ s.2.2 = 0 := by
  unfold hadS at h
  simp only [Bool.or_eq_true, decide_eq_true_eq] at h
  rcases h with q | ⟨q, r⟩
  · have := hk.none (by omega) (by omega)
    exact ⟨by omega, by omega, this⟩
  · have r1 : s.2.1 = 0 := by
      apply Nat.eq_of_testBit_eq; intro i
      have := congrArg (fun x => x.testBit i) r
      simp only [Nat.testBit_or, Nat.zero_testBit, Bool.or_eq_false_iff] at this
      simp [this.1]
    have r2 : s.2.2 = 0 := by
      apply Nat.eq_of_testBit_eq; intro i
      have := congrArg (fun x => x.testBit i) r
      simp only [Nat.testBit_or, Nat.zero_testBit, Bool.or_eq_false_iff] at this
      simp [this.2]
    exact ⟨by omega, by omega, r1, r2⟩
theorem sAt_zero {i : Nat} {s : St} (h0 : s.2.1 = 0) (h2 : ¬ kN s.1 = 2) : sAt i s = [] := by
  unfold sAt
  split
  · have : liveL s.2.1 (mnN (cN s.1)) = [] := by
      unfold liveL; rw [h0]
      rw [List.filter_eq_nil_iff]
      intro x _
      simp
    rw [this]; rfl
  · rw [if_neg (fun q => h2 q.1)]
theorem parts_run (c : Nat) (hc : c < 3) : kN (1 + 8 * c) = 1 ∧ cN (1 + 8 * c) = c ∧ okN (1 + 8 * c) = true := by
  have : ∀ c, c < 3 → kN (1 + 8 * c) = 1 ∧ cN (1 + 8 * c) = c ∧ okN (1 + 8 * c) = true := by decide
  exact this c hc
theorem parts_huge (m : Nat) (h1 : 1 ≤ m) (h2 : m ≤ 8191) : kN (2 + 2048 * m) = 2 ∧ mN (2 + 2048 * m) = m ∧ okN (2 + 2048 * m) = true := by
  have e0 : kN (2 + 2048 * m) = 2 := by unfold kN; omega
  have e1 : cN (2 + 2048 * m) = 0 := by unfold cN; omega
  have e2 : lnN (2 + 2048 * m) = 0 := by unfold lnN; omega
  have e3 : mN (2 + 2048 * m) = m := by unfold mN; omega
  have e4 : bN (2 + 2048 * m) = 0 := by unfold bN; omega
  refine ⟨e0, e3, decide_eq_true ?_⟩
  unfold RightN
  rw [e0, e1, e2, e3, e4]
  omega
/-- is a place taken, of so many words -/
def TakenAt (S : List St) (p : Plc) : Prop := p.ch < S.length ∧
  ((kN (gS S p.ch).1 = 1 ∧ p.cl = (cN (gS S p.ch).1 : Nat) ∧ p.ix < mnN (cN (gS S p.ch).1) ∧ (gS S p.ch).2.2.testBit p.ix = true) ∨
   (kN (gS S p.ch).1 = 2 ∧ p.cl = -1 ∧ p.ix = 0 ∧ p.mn = mN (gS S p.ch).1 ∧ (gS S p.ch).2.2 = 1))
theorem testBit_pow (j i : Nat) : (2 ^ j).testBit i = decide (j = i) := Nat.testBit_two_pow
theorem or_pow_lt {a j m : Nat} (h : a < 2 ^ m) (hj : j < m) : a ||| 2 ^ j < 2 ^ m := Nat.or_lt_two_pow h (Nat.pow_lt_pow_right (by omega) hj)
theorem and_zero {a b : Nat} : a &&& b = 0 ↔ ∀ i, a.testBit i = true → b.testBit i = false := by
  constructor
  · intro h i hi
    have := congrArg (fun x => x.testBit i) h
    simp only [Nat.testBit_and, Nat.zero_testBit, hi, Bool.true_and] at this
    exact this
  · intro h
    apply Nat.eq_of_testBit_eq; intro i
    rw [Nat.testBit_and, Nat.zero_testBit]
    cases hb : a.testBit i with
    | false => rfl
    | true => rw [h i hb]; rfl
theorem clr_bit (a j i : Nat) : (clrN a (2 ^ j)).testBit i = (a.testBit i && !decide (j = i)) := by
  unfold clrN
  rw [Nat.testBit_xor, Nat.testBit_and, testBit_pow]
  cases a.testBit i <;> cases decide (j = i) <;> rfl
theorem clr_lt {a j m : Nat} (h : a < 2 ^ m) : clrN a (2 ^ j) < 2 ^ m := by
  unfold clrN
  exact Nat.xor_lt_two_pow h (Nat.lt_of_le_of_lt Nat.and_le_left h)
theorem clr_one : clrN 1 1 = 0 := by decide
theorem len_takeR {S S' : List St} {of : Option Nat} {m : Nat} {r : Option Plc} (h : TakeR S of m S' r) : S'.length = S.length := by
  cases h with
  | run => simp
  | fresh => simp
  | full => rfl
  | huge => simp [fill_len]
  | fullH => rfl
theorem stOk_run {s : St} (h : StOk s) {a b : Nat} (hk : kN s.1 = 1) (ha : a < 2 ^ mnN (cN s.1)) (hb : b < 2 ^ mnN (cN s.1)) (hab : a &&& b = 0) : StOk (s.1, a, b) :=
  ⟨h.ok, fun _ => ⟨ha, hb, hab⟩, fun q => absurd (show kN s.1 = 2 from q) (by omega), fun q => absurd hk q⟩
theorem stOk_fresh (c : Nat) (hc : c < 3) {a b : Nat} (ha : a < 2 ^ mnN c) (hb : b < 2 ^ mnN c) (hab : a &&& b = 0) : StOk (1 + 8 * c, a, b) := by
  obtain ⟨e1, e2, e3⟩ := parts_run c hc
  refine ⟨e3, fun _ => ?_, fun q => ?_, fun q => absurd e1 q⟩
  · simp only [e2]; exact ⟨ha, hb, hab⟩
  · simp only [e1] at q; omega
theorem stOk_zero : StOk (0, 0, 0) := ⟨by decide, fun q => by revert q; decide, fun q => by revert q; decide, fun _ _ => ⟨rfl, rfl⟩⟩
theorem stOk_tail : StOk (3, 0, 0) := ⟨by decide, fun q => by revert q; decide, fun q => by revert q; decide, fun _ _ => ⟨rfl, rfl⟩⟩
theorem two_le_mn {c : Nat} (hc : c < 3) : 2 ≤ mnN c := by
  have : ∀ c, c < 3 → 2 ≤ mnN c := by decide
  exact this c hc
theorem run_class {s : St} (h : StOk s) (hk : kN s.1 = 1) : cN s.1 < 3 := by
  have := okN_t h.ok
  unfold RightN at this
  omega
theorem take_ok {S S' : List St} {of : Option Nat} {m : Nat} {r : Option Plc} (h : SOk S) (ht : TakeR S of m S' r) (hc : ∀ c, of = some c → c < 3) (h1 : 1 ≤ m) (h2 : m ≤ 8191) :
    SOk S' ∧ sFrom 0 S' = sFrom 0 S ∧ ∀ p, r = some p → TakenAt S' p := by
  cases ht with
  | @run c _ i j hi k1 hcc hj hfirst =>
    obtain ⟨j1, j2⟩ := firstOff_t hj
    have hO := h.each i hi
    obtain ⟨r1, r2, r3⟩ := hO.run k1
    rw [hcc] at r1 r2
    have hg := gS_set S i ((gS S i).1, (gS S i).2.1, (gS S i).2.2 ||| 2 ^ j)
    have hge : gS (S.set i ((gS S i).1, (gS S i).2.1, (gS S i).2.2 ||| 2 ^ j)) i = ((gS S i).1, (gS S i).2.1, (gS S i).2.2 ||| 2 ^ j) := by rw [hg i hi, if_pos rfl]
    rw [Nat.testBit_or, Bool.or_eq_false_iff] at j2
    refine ⟨⟨fun k hk => ?_, ?_⟩, ?_, ?_⟩
    · rw [List.length_set] at hk
      rw [hg k hi]
      by_cases e : k = i
      · rw [if_pos e]
        refine stOk_run hO k1 (by rw [hcc]; exact r1) (by rw [hcc]; exact or_pow_lt r2 j1) (and_zero.2 fun b hb => ?_)
        rw [Nat.testBit_or, testBit_pow, and_zero.1 r3 b hb, Bool.false_or]
        by_cases e2 : j = b
        · subst e2; rw [j2.1] at hb; cases hb
        · exact decide_eq_false e2
      · rw [if_neg e]; exact h.each k hk
    · have := tiled_set (x := fun i => (gS S i).1) (y := fun k => (gS (S.set i ((gS S i).1, (gS S i).2.1, (gS S i).2.2 ||| 2 ^ j)) k).1) h.tiled (i := i) (show ¬ kN (gS S i).1 = 2 by omega) (show ¬ kN (gS S i).1 = 3 by omega) (by simp only [hge]; omega) (by simp only [hge]; omega) (fun k hk => by simp only [hg k hi, if_neg hk])
      rw [List.length_set]; exact this
    · refine sFrom_ext 0 _ _ (by simp) (fun k hk => ?_)
      rw [hg k hi]
      by_cases e : k = i
      · subst e
        rw [if_pos rfl]
        unfold sAt
        simp only [k1, if_true]
      · rw [if_neg e]
    · intro p hp
      obtain rfl := Option.some.inj hp
      refine ⟨by simpa using hi, .inl ?_⟩
      simp only [hge]
      refine ⟨k1, by rw [hcc], by rw [hcc]; exact j1, ?_⟩
      rw [Nat.testBit_or, testBit_pow, decide_eq_true rfl, Bool.or_true]
  | @fresh c _ i hno hrow hfirst =>
    have c3 := hc c rfl
    obtain ⟨hi, hhad⟩ := hrow
    have hi : i < S.length := by omega
    have hh := hhad 0 (by omega)
    rw [Nat.add_zero] at hh
    obtain ⟨q1, q2, q3, q4⟩ := had_t (h.each i hi) hh
    obtain ⟨e1, e2, e3⟩ := parts_run c c3
    have hg := gS_set S i (1 + 8 * c, 0, 1)
    have hge : gS (S.set i (1 + 8 * c, 0, 1)) i = (1 + 8 * c, 0, 1) := by rw [hg i hi, if_pos rfl]
    have h2c := two_le_mn c3
    have hone : 1 < 2 ^ mnN c := Nat.lt_of_lt_of_le (show 1 < 2 ^ 2 by decide) (Nat.pow_le_pow_right (by omega) h2c)
    refine ⟨⟨fun k hk => ?_, ?_⟩, ?_, ?_⟩
    · rw [List.length_set] at hk
      rw [hg k hi]
      by_cases e : k = i
      · rw [if_pos e]; exact stOk_fresh c c3 (by omega) hone (by simp)
      · rw [if_neg e]; exact h.each k hk
    · have := tiled_set (x := fun i => (gS S i).1) (y := fun k => (gS (S.set i (1 + 8 * c, 0, 1)) k).1) h.tiled (i := i) q1 q2 (by simp only [hge, e1]; omega) (by simp only [hge, e1]; omega) (fun k hk => by simp only [hg k hi, if_neg hk])
      rw [List.length_set]; exact this
    · refine sFrom_ext 0 _ _ (by simp) (fun k hk => ?_)
      rw [hg k hi]
      by_cases e : k = i
      · subst e
        rw [if_pos rfl, sAt_zero q3 q1, sAt_zero rfl (by simp only [e1]; omega)]
      · rw [if_neg e]
    · intro p hp
      obtain rfl := Option.some.inj hp
      refine ⟨by simpa using hi, .inl ?_⟩
      simp only [hge]
      exact ⟨e1, by rw [e2], by rw [e2]; omega, by decide⟩
  | full => exact ⟨h, rfl, fun p hp => by cases hp⟩
  | @huge _ a hrow hfirst =>
    obtain ⟨ha, hhad⟩ := hrow
    obtain ⟨e1, e2, e3⟩ := parts_huge m h1 h2
    have hg : ∀ k, gS ((fillS S (a + 1) (3, 0, 0) (m - 1)).set a (2 + 2048 * m, 0, 1)) k = if k = a then (2 + 2048 * m, 0, 1) else if a < k ∧ k < a + m then (3, 0, 0) else gS S k := by
      intro k
      rw [gS_set _ _ _ _ (by rw [fill_len]; omega), fill_at _ _ _ _ (by omega)]
      by_cases e : k = a
      · rw [if_pos e, if_pos e]
      · rw [if_neg e, if_neg e]
        by_cases q : a < k ∧ k < a + m
        · rw [if_pos (by omega), if_pos q]
        · rw [if_neg (by omega), if_neg q]
    have hq : ∀ j, a ≤ j → j < a + m → ¬ kN (gS S j).1 = 2 ∧ ¬ kN (gS S j).1 = 3 ∧ (gS S j).2.1 = 0 ∧ (gS S j).2.2 = 0 := fun j j1 j2 => by
      have := hhad (j - a) (by omega)
      rw [show a + (j - a) = j by omega] at this
      exact had_t (h.each j (by omega)) this
    have hlen : ((fillS S (a + 1) (3, 0, 0) (m - 1)).set a (2 + 2048 * m, 0, 1)).length = S.length := by rw [List.length_set, fill_len]
    generalize (fillS S (a + 1) (3, 0, 0) (m - 1)).set a (2 + 2048 * m, 0, 1) = S' at *
    refine ⟨⟨fun k hk => ?_, ?_⟩, ?_, ?_⟩
    · rw [hg k]
      by_cases e : k = a
      · rw [if_pos e]
        exact ⟨e3, fun q => absurd (show kN (2 + 2048 * m) = 1 from q) (by omega), fun _ => .inr ⟨rfl, rfl⟩, fun _ q => absurd e1 q⟩
      · rw [if_neg e]
        by_cases q : a < k ∧ k < a + m
        · rw [if_pos q]; exact stOk_tail
        · rw [if_neg q]; exact h.each k (by omega)
    · rw [hlen]
      refine tiled_huge h.tiled h1 ha (fun j j1 j2 => ⟨(hq j j1 j2).1, (hq j j1 j2).2.1⟩) ?_ ?_ ?_ ?_
      · simp only [hg a, if_pos, e1]
      · simp only [hg a, if_pos, e2]
      · intro j j1 j2
        simp only [hg j]
        rw [if_neg (by omega), if_pos ⟨j1, j2⟩]; rfl
      · intro j hj
        simp only [hg j]
        rw [if_neg (by omega), if_neg (by omega)]
    · refine sFrom_ext 0 _ _ hlen (fun k hk => ?_)
      rw [hg k]
      by_cases e : k = a
      · rw [if_pos e]
        have := hq k (by omega) (by omega)
        rw [sAt_zero this.2.2.1 this.1]
        unfold sAt
        rw [if_neg (by simp only [e1]; omega), if_neg (by simp)]
      · rw [if_neg e]
        by_cases q : a < k ∧ k < a + m
        · rw [if_pos q]
          have := hq k (by omega) (by omega)
          rw [sAt_zero this.2.2.1 this.1, sAt_zero rfl (by decide)]
        · rw [if_neg q]
    · intro p hp
      obtain rfl := Option.some.inj hp
      refine ⟨by simp only [hlen]; omega, .inr ?_⟩
      have hga : gS S' a = (2 + 2048 * m, 0, 1) := by rw [hg a, if_pos rfl]
      show kN (gS S' a).1 = 2 ∧ (-1 : Int) = -1 ∧ 0 = 0 ∧ m = mN (gS S' a).1 ∧ (gS S' a).2.2 = 1
      rw [hga]
      exact ⟨e1, rfl, rfl, e2.symm, rfl⟩
  | fullH => exact ⟨h, rfl, fun p hp => by cases hp⟩
def LiveAt (S : List St) (p : Plc) : Prop := p.ch < S.length ∧
  ((kN (gS S p.ch).1 = 1 ∧ p.cl = (cN (gS S p.ch).1 : Nat) ∧ p.ix < mnN (cN (gS S p.ch).1) ∧ (gS S p.ch).2.1.testBit p.ix = true) ∨
   (kN (gS S p.ch).1 = 2 ∧ p.cl = -1 ∧ p.ix = 0 ∧ p.mn = mN (gS S p.ch).1 ∧ (gS S p.ch).2.1 = 1))
/-- whether a place is one, and which -/
def PlaceAt (S : List St) (p : Plc) : Prop := p.ch < S.length ∧
  ((kN (gS S p.ch).1 = 1 ∧ p.cl = (cN (gS S p.ch).1 : Nat) ∧ p.ix < mnN (cN (gS S p.ch).1)) ∨ (kN (gS S p.ch).1 = 2 ∧ p.cl = -1 ∧ p.ix = 0 ∧ p.mn = mN (gS S p.ch).1))
theorem bit_run {S : List St} {p : Plc} (hi : p.ch < S.length) (k1 : kN (gS S p.ch).1 = 1) (h2 : p.cl = (cN (gS S p.ch).1 : Nat)) (h3 : p.ix < mnN (cN (gS S p.ch).1)) : bitS S p.ch p.ix p.cl p.mn = 2 ^ p.ix := by
  unfold bitS
  rw [if_pos ⟨by omega, by omega⟩, Int.toNat_natCast, if_pos ⟨k1, h2, by omega, by omega⟩, Int.toNat_natCast]
theorem bit_huge {S : List St} {p : Plc} (hi : p.ch < S.length) (k2 : kN (gS S p.ch).1 = 2) (h2 : p.cl = -1) (h3 : p.ix = 0) (h4 : p.mn = mN (gS S p.ch).1) : bitS S p.ch p.ix p.cl p.mn = 1 := by
  unfold bitS
  rw [if_pos ⟨by omega, by omega⟩, Int.toNat_natCast, if_neg (fun q => by omega), if_pos ⟨k2, h2, by omega, by omega⟩]
theorem bit_nonrun {S : List St} {p : Plc} (hi : p.ch < S.length) (h : ¬ kN (gS S p.ch).1 = 2) (h2 : p.cl = -1) : bitS S p.ch p.ix p.cl p.mn = 0 := by
  unfold bitS
  rw [if_pos ⟨by omega, by omega⟩, Int.toNat_natCast, if_neg (fun q => by omega), if_neg (fun q => h q.1)]
theorem and_pow {a j : Nat} : a &&& 2 ^ j = 0 ↔ a.testBit j = false := by
  constructor
  · intro h
    have := congrArg (fun x => x.testBit j) h
    simp only [Nat.testBit_and, testBit_pow, Nat.zero_testBit, decide_true, Bool.and_true] at this
    exact this
  · intro h
    refine and_zero.2 fun i hi => ?_
    rw [testBit_pow]
    by_cases e : j = i
    · subst e; rw [h] at hi; cases hi
    · exact decide_eq_false e
theorem pow_ne (j : Nat) : ¬ 2 ^ j = 0 := by have := Nat.pow_pos (n := j) (show 0 < 2 by omega); omega
/-- what becomes of it -/
theorem keep_eq {S : List St} {p : Plc} (h : SOk S) (ht : TakenAt S p) : keepS S p.ch p.ix p.cl p.mn = (true, S.set p.ch (if kN (gS S p.ch).1 = 1 then ((gS S p.ch).1, (gS S p.ch).2.1 ||| 2 ^ p.ix, clrN (gS S p.ch).2.2 (2 ^ p.ix)) else ((gS S p.ch).1, 1, 0))) := by
  obtain ⟨hi, q⟩ := ht
  unfold keepS
  rcases q with ⟨k1, a2, a3, a4⟩ | ⟨k2, a2, a3, a4, a5⟩
  · rw [bit_run hi k1 a2 a3, Int.toNat_natCast, if_pos k1, if_neg]
    rintro (h | h)
    · exact pow_ne _ h
    · rw [and_pow.1 h] at a4; cases a4
  · have hh := (h.each _ hi).huge k2
    rw [bit_huge hi k2 a2 a3 a4, Int.toNat_natCast, if_neg (show ¬ kN (gS S p.ch).1 = 1 by omega), a5, if_neg (by decide), show (gS S p.ch).2.1 = 0 by omega]
    rfl
theorem drop_eq {S : List St} {p : Plc} (h : SOk S) (ht : TakenAt S p) : dropS S p.ch p.ix p.cl p.mn = (true, if kN (gS S p.ch).1 = 1 then S.set p.ch ((gS S p.ch).1, (gS S p.ch).2.1, clrN (gS S p.ch).2.2 (2 ^ p.ix)) else fillS (S.set p.ch ((gS S p.ch).1, 0, 0)) p.ch (0, 0, 0) (mN (gS S p.ch).1)) := by
  obtain ⟨hi, q⟩ := ht
  unfold dropS vacS
  rcases q with ⟨k1, a2, a3, a4⟩ | ⟨k2, a2, a3, a4, a5⟩
  · rw [bit_run hi k1 a2 a3, Int.toNat_natCast, if_pos k1, if_neg, if_neg (by omega)]
    rintro (h | h)
    · exact pow_ne _ h
    · rw [and_pow.1 h] at a4; cases a4
  · have hh := (h.each _ hi).huge k2
    rw [bit_huge hi k2 a2 a3 a4, Int.toNat_natCast, if_neg (show ¬ kN (gS S p.ch).1 = 1 by omega), a5, if_neg (by decide), show (gS S p.ch).2.1 = 0 by omega, if_pos a2, a4, Int.toNat_natCast]
    rfl
theorem free_eq {S : List St} {p : Plc} (h : SOk S) (ht : LiveAt S p) : freeS S p.ch p.ix p.cl p.mn = (true, if kN (gS S p.ch).1 = 1 then S.set p.ch ((gS S p.ch).1, clrN (gS S p.ch).2.1 (2 ^ p.ix), (gS S p.ch).2.2) else fillS (S.set p.ch ((gS S p.ch).1, 0, 0)) p.ch (0, 0, 0) (mN (gS S p.ch).1)) := by
  obtain ⟨hi, q⟩ := ht
  unfold freeS vacS
  rcases q with ⟨k1, a2, a3, a4⟩ | ⟨k2, a2, a3, a4, a5⟩
  · rw [bit_run hi k1 a2 a3, Int.toNat_natCast, if_pos k1, if_neg, if_neg (by omega)]
    rintro (h | h)
    · exact pow_ne _ h
    · rw [and_pow.1 h] at a4; cases a4
  · have hh := (h.each _ hi).huge k2
    rw [bit_huge hi k2 a2 a3 a4, Int.toNat_natCast, if_neg (show ¬ kN (gS S p.ch).1 = 1 by omega), a5, if_neg (by decide), show (gS S p.ch).2.2 = 0 by omega, if_pos a2, a4, Int.toNat_natCast]
    rfl
theorem gS_fill0 {S : List St} {c : Nat} {s : St} {m : Nat} (hm : c + m ≤ S.length) (h1 : 1 ≤ m) (k : Nat) : gS (fillS (S.set c s) c (0, 0, 0) m) k = if c ≤ k ∧ k < c + m then (0, 0, 0) else gS S k := by
  rw [fill_at _ _ _ _ (by rw [List.length_set]; omega)]
  by_cases q : c ≤ k ∧ k < c + m
  · rw [if_pos q, if_pos q]
  · rw [if_neg q, if_neg q, gS_set _ _ _ _ (by omega), if_neg (by omega)]
theorem huge_many {S : List St} (h : SOk S) {i : Nat} (hi : i < S.length) (k2 : kN (gS S i).1 = 2) : 1 ≤ mN (gS S i).1 ∧ i + mN (gS S i).1 ≤ S.length := by
  have := okN_t (h.each i hi).ok
  unfold RightN at this
  exact ⟨by omega, (h.tiled i hi).2 k2⟩
/-- a huge one is cleared -/
theorem clear_ok {S S' : List St} (h : SOk S) {c : Nat} (hi : c < S.length) (k2 : kN (gS S c).1 = 2) (hl : S'.length = S.length) (hg : ∀ k, gS S' k = if c ≤ k ∧ k < c + mN (gS S c).1 then (0, 0, 0) else gS S k) : SOk S' ∧ ∀ k, k < S.length → ¬ k = c → sAt k (gS S' k) = sAt k (gS S k) := by
  obtain ⟨m1, m2⟩ := huge_many h hi k2
  refine ⟨⟨fun k hk => ?_, ?_⟩, fun k hk hne => ?_⟩
  · rw [hg k]
    split
    · exact stOk_zero
    · exact h.each k (by omega)
  · rw [hl]
    refine tiled_clear (x := fun i => (gS S i).1) h.tiled hi k2 (fun j j1 j2 => ?_) (fun j hj => ?_)
    · simp only [hg j] at j2 ⊢
      rw [if_pos ⟨j1, j2⟩]; rfl
    · simp only [hg j] at hj ⊢
      rw [if_neg (by omega)]
  · rw [hg k]
    by_cases q : c ≤ k ∧ k < c + mN (gS S c).1
    · rw [if_pos q]
      have k3 : kN (gS S k).1 = 3 := (h.tiled k hk).1.1 ⟨c, by omega, k2, q.2⟩
      rw [sAt_zero (s := (0, 0, 0)) rfl (by decide), sAt_none (by omega) (by omega)]
    · rw [if_neg q]
/-- a chunk is a run as before, with other blocks -/
theorem rerun_ok {S : List St} (h : SOk S) {i a b : Nat} (hi : i < S.length) (k1 : kN (gS S i).1 = 1) (ha : a < 2 ^ mnN (cN (gS S i).1)) (hb : b < 2 ^ mnN (cN (gS S i).1)) (hab : a &&& b = 0) : SOk (S.set i ((gS S i).1, a, b)) := by
  have hg := gS_set S i ((gS S i).1, a, b)
  have hge : gS (S.set i ((gS S i).1, a, b)) i = ((gS S i).1, a, b) := by rw [hg i hi, if_pos rfl]
  refine ⟨fun k hk => ?_, ?_⟩
  · rw [List.length_set] at hk
    rw [hg k hi]
    by_cases e : k = i
    · rw [if_pos e]; exact stOk_run (h.each i hi) k1 ha hb hab
    · rw [if_neg e]; exact h.each k hk
  · have := tiled_set (x := fun i => (gS S i).1) (y := fun k => (gS (S.set i ((gS S i).1, a, b)) k).1) h.tiled (i := i) (show ¬ kN (gS S i).1 = 2 by omega) (show ¬ kN (gS S i).1 = 3 by omega) (by simp only [hge]; omega) (by simp only [hge]; omega) (fun k hk => by simp only [hg k hi, if_neg hk])
    rw [List.length_set]; exact this
theorem rehuge_ok {S : List St} (h : SOk S) {i a b : Nat} (hi : i < S.length) (k2 : kN (gS S i).1 = 2) (hab : (a = 1 ∧ b = 0) ∨ (a = 0 ∧ b = 1)) : SOk (S.set i ((gS S i).1, a, b)) := by
  have hg := gS_set S i ((gS S i).1, a, b)
  refine ⟨fun k hk => ?_, ?_⟩
  · rw [List.length_set] at hk
    rw [hg k hi]
    by_cases e : k = i
    · rw [if_pos e]; exact ⟨(h.each i hi).ok, fun q => absurd (show kN (gS S i).1 = 1 from q) (by omega), fun _ => hab, fun _ q => absurd k2 q⟩
    · rw [if_neg e]; exact h.each k hk
  · rw [List.length_set]
    have : (fun k => (gS (S.set i ((gS S i).1, a, b)) k).1) = fun k => (gS S k).1 := by
      funext k
      simp only [hg k hi]
      by_cases e : k = i
      · rw [if_pos e, e]
      · rw [if_neg e]
    rw [this]
    exact h.tiled
theorem bit_or_clr {a b j : Nat} (h : a &&& b = 0) : (a ||| 2 ^ j) &&& clrN b (2 ^ j) = 0 := by
  refine and_zero.2 fun i hi => ?_
  rw [clr_bit]
  rw [Nat.testBit_or, testBit_pow] at hi
  by_cases e : j = i
  · simp [e]
  · have h1 : a.testBit i = true := by simpa [e] using hi
    rw [and_zero.1 h i h1]; rfl
theorem clr_and {a b j : Nat} (h : a &&& b = 0) : clrN a (2 ^ j) &&& b = 0 := by
  refine and_zero.2 fun i hi => ?_
  rw [clr_bit, Bool.and_eq_true] at hi
  exact and_zero.1 h i hi.1
theorem and_clr {a b j : Nat} (h : a &&& b = 0) : a &&& clrN b (2 ^ j) = 0 := by
  refine and_zero.2 fun i hi => ?_
  rw [clr_bit, and_zero.1 h i hi]; rfl
theorem live_more {b m j : Nat} (hj : j < m) (hb : b.testBit j = false) : (liveL (b ||| 2 ^ j) m).length = (liveL b m).length + 1 := by
  unfold liveL
  induction m with
  | zero => omega
  | succ m ih =>
    rw [List.range_succ, List.filter_append, List.filter_append, List.length_append, List.length_append]
    by_cases e : j = m
    · subst e
      have e1 : (List.range j).filter (b ||| 2 ^ j).testBit = (List.range j).filter b.testBit := by
        refine List.filter_congr fun x hx => ?_
        have := List.mem_range.1 hx
        rw [Nat.testBit_or, testBit_pow, decide_eq_false (by omega), Bool.or_false]
      rw [e1]
      simp [Nat.testBit_or, hb]
    · rw [ih (by omega)]
      have e1 : (b ||| 2 ^ j).testBit m = b.testBit m := by rw [Nat.testBit_or, testBit_pow, decide_eq_false e, Bool.or_false]
      simp only [List.filter_cons, List.filter_nil, e1]
      split <;> simp <;> omega
theorem or_clr {a j : Nat} (h : a.testBit j = true) : clrN a (2 ^ j) ||| 2 ^ j = a := by
  apply Nat.eq_of_testBit_eq; intro i
  rw [Nat.testBit_or, clr_bit, testBit_pow]
  by_cases e : j = i
  · subst e; simp [h]
  · simp [e]
theorem live_less {b m j : Nat} (hj : j < m) (hb : b.testBit j = true) : (liveL b m).length = (liveL (clrN b (2 ^ j)) m).length + 1 := by
  have := live_more (b := clrN b (2 ^ j)) hj (by rw [clr_bit]; simp)
  rw [or_clr hb] at this
  exact this
theorem liveL_mem {b m x : Nat} : x ∈ liveL b m ↔ x < m ∧ b.testBit x = true := by
  unfold liveL; rw [List.mem_filter, List.mem_range]
def newB (p : Plc) (s : St) : Bl := (p.ch, p.ix, if kN s.1 = 1 then blN (cN s.1) else mN s.1 * 32)
theorem sAt_ch {i : Nat} {s : St} {b : Bl} (h : b ∈ sAt i s) : b.1 = i := by
  unfold sAt at h
  split at h
  · obtain ⟨j, _, rfl⟩ := List.mem_map.1 h; rfl
  · split at h
    · simp at h; rw [h]
    · simp at h
structure KeepOk (S S2 : List St) (p : Plc) : Prop where
  ok : SOk S2
  len : S2.length = S.length
  more : (sFrom 0 S2).length = (sFrom 0 S).length + 1
  was : ∀ b, b ∈ sFrom 0 S → b ∈ sFrom 0 S2
  live : LiveAt S2 p
  noKeep : (keepS S2 p.ch p.ix p.cl p.mn).1 = false
  noDrop : (dropS S2 p.ch p.ix p.cl p.mn).1 = false
  here : newB p (gS S p.ch) ∈ sFrom 0 S2
  only : ∀ b, b ∈ sFrom 0 S2 → b.1 = p.ch → b.2.1 = p.ix → b = newB p (gS S p.ch)
  word : ∀ k, (gS S2 k).1 = (gS S k).1
  taken : ∀ k, (gS S2 k).2.2 = if k = p.ch then clrN (gS S k).2.2 (2 ^ p.ix) else (gS S k).2.2
theorem keep_ok {S : List St} {p : Plc} (h : SOk S) (ht : TakenAt S p) : KeepOk S (keepS S p.ch p.ix p.cl p.mn).2 p := by
  rw [keep_eq h ht]
  obtain ⟨hi, q⟩ := ht
  have hO := h.each _ hi
  rcases q with ⟨k1, a2, a3, a4⟩ | ⟨k2, a2, a3, a4, a5⟩
  · rw [if_pos k1]
    obtain ⟨r1, r2, r3⟩ := hO.run k1
    have hl0 : (gS S p.ch).2.1.testBit p.ix = false := by
      cases hb : (gS S p.ch).2.1.testBit p.ix with
      | false => rfl
      | true => rw [and_zero.1 r3 _ hb] at a4; cases a4
    have hg := gS_set S p.ch ((gS S p.ch).1, (gS S p.ch).2.1 ||| 2 ^ p.ix, clrN (gS S p.ch).2.2 (2 ^ p.ix))
    have hge : gS (S.set p.ch ((gS S p.ch).1, (gS S p.ch).2.1 ||| 2 ^ p.ix, clrN (gS S p.ch).2.2 (2 ^ p.ix))) p.ch = ((gS S p.ch).1, (gS S p.ch).2.1 ||| 2 ^ p.ix, clrN (gS S p.ch).2.2 (2 ^ p.ix)) := by rw [hg _ hi, if_pos rfl]
    have hok : SOk (S.set p.ch ((gS S p.ch).1, (gS S p.ch).2.1 ||| 2 ^ p.ix, clrN (gS S p.ch).2.2 (2 ^ p.ix))) := rerun_ok h hi k1 (or_pow_lt r1 a3) (clr_lt r2) (bit_or_clr r3)
    have hsum := sum_set S p.ch ((gS S p.ch).1, (gS S p.ch).2.1 ||| 2 ^ p.ix, clrN (gS S p.ch).2.2 (2 ^ p.ix)) hi
    have hcnt : cntS ((gS S p.ch).1, (gS S p.ch).2.1 ||| 2 ^ p.ix, clrN (gS S p.ch).2.2 (2 ^ p.ix)) = cntS (gS S p.ch) + 1 := by
      unfold cntS sAt
      simp only [k1, if_true, List.length_map]
      exact live_more a3 hl0
    have hlen : (S.set p.ch ((gS S p.ch).1, (gS S p.ch).2.1 ||| 2 ^ p.ix, clrN (gS S p.ch).2.2 (2 ^ p.ix))).length = S.length := by simp
    simp only []
    generalize S.set p.ch ((gS S p.ch).1, (gS S p.ch).2.1 ||| 2 ^ p.ix, clrN (gS S p.ch).2.2 (2 ^ p.ix)) = S2 at *
    have hbit : bitS S2 p.ch p.ix p.cl p.mn = 2 ^ p.ix := bit_run (by omega) (by rw [hge]; exact k1) (by rw [hge]; exact a2) (by rw [hge]; exact a3)
    have hclr : (gS S2 p.ch).2.2 &&& 2 ^ p.ix = 0 := by rw [hge]; exact and_pow.2 (by rw [clr_bit]; simp)
    refine ⟨hok, hlen, ?_, fun b hb => ?_, ⟨by omega, .inl ⟨by rw [hge]; exact k1, by rw [hge]; exact a2, by rw [hge]; exact a3, ?_⟩⟩, ?_, ?_, ?_, ?_, fun k => ?_, fun k => ?_⟩
    · rw [sFrom_len, sFrom_len]; omega
    · obtain ⟨k, hk, hb⟩ := (sFrom_mem 0 S b).1 hb
      refine (sFrom_mem 0 S2 b).2 ⟨k, by omega, ?_⟩
      rw [hg k hi]
      by_cases e : k = p.ch
      · subst e
        rw [if_pos rfl]
        unfold sAt at hb ⊢
        simp only [k1, if_true] at hb ⊢
        obtain ⟨j, hj, rfl⟩ := List.mem_map.1 hb
        refine List.mem_map.2 ⟨j, liveL_mem.2 ⟨(liveL_mem.1 hj).1, ?_⟩, rfl⟩
        rw [Nat.testBit_or, (liveL_mem.1 hj).2, Bool.true_or]
      · rw [if_neg e]; exact hb
    · rw [hge]
      show ((gS S p.ch).2.1 ||| 2 ^ p.ix).testBit p.ix = true
      rw [Nat.testBit_or, testBit_pow, decide_eq_true rfl, Bool.or_true]
    · unfold keepS; rw [hbit, Int.toNat_natCast, if_pos (.inr hclr)]
    · unfold dropS; rw [hbit, Int.toNat_natCast, if_pos (.inr hclr)]
    · refine (sFrom_mem 0 S2 _).2 ⟨p.ch, by omega, ?_⟩
      rw [hge, Nat.zero_add]
      unfold sAt newB
      simp only [k1, if_true]
      refine List.mem_map.2 ⟨p.ix, liveL_mem.2 ⟨a3, ?_⟩, rfl⟩
      rw [Nat.testBit_or, testBit_pow, decide_eq_true rfl, Bool.or_true]
    · intro b hb b1 b2
      obtain ⟨k, hk, hb⟩ := (sFrom_mem 0 S2 b).1 hb
      have := sAt_ch hb
      obtain rfl : k = p.ch := by omega
      rw [hge] at hb
      unfold sAt at hb
      simp only [k1, if_true] at hb
      obtain ⟨j, hj, rfl⟩ := List.mem_map.1 hb
      unfold newB
      simp only [k1, if_true] at b1 b2 ⊢
      rw [b2, b1]
    · rw [hg k hi]
      split
      · rename_i e; rw [e]
      · rfl
    · rw [hg k hi]
      by_cases e : k = p.ch
      · rw [if_pos e, if_pos e, e]
      · rw [if_neg e, if_neg e]
  · rw [if_neg (show ¬ kN (gS S p.ch).1 = 1 by omega)]
    have hh := hO.huge k2
    have hg := gS_set S p.ch ((gS S p.ch).1, 1, 0)
    have hge : gS (S.set p.ch ((gS S p.ch).1, 1, 0)) p.ch = ((gS S p.ch).1, 1, 0) := by rw [hg _ hi, if_pos rfl]
    have hok : SOk (S.set p.ch ((gS S p.ch).1, 1, 0)) := rehuge_ok h hi k2 (.inl ⟨rfl, rfl⟩)
    have hsum := sum_set S p.ch ((gS S p.ch).1, 1, 0) hi
    have hs0 : ∀ i, sAt i (gS S p.ch) = [] := fun i => by unfold sAt; rw [if_neg (by omega), if_neg (fun q => by omega)]
    have hs1 : ∀ i, sAt i ((gS S p.ch).1, 1, 0) = [(i, 0, mN (gS S p.ch).1 * 32)] := fun i => by unfold sAt; rw [if_neg (show ¬ kN (gS S p.ch).1 = 1 by omega), if_pos ⟨k2, rfl⟩]
    have hc0 : cntS (gS S p.ch) = 0 := by unfold cntS; rw [hs0]; rfl
    have hc1 : cntS ((gS S p.ch).1, 1, 0) = 1 := by unfold cntS; rw [hs1]; rfl
    have hlen : (S.set p.ch ((gS S p.ch).1, 1, 0)).length = S.length := by simp
    simp only []
    generalize S.set p.ch ((gS S p.ch).1, 1, 0) = S2 at *
    have hbit : bitS S2 p.ch p.ix p.cl p.mn = 1 := bit_huge (by omega) (by rw [hge]; exact k2) a2 a3 (by rw [hge]; exact a4)
    have hclr : (gS S2 p.ch).2.2 &&& 1 = 0 := by rw [hge]; exact Nat.zero_and 1
    refine ⟨hok, hlen, ?_, fun b hb => ?_, ⟨by omega, .inr ⟨by rw [hge]; exact k2, a2, a3, by rw [hge]; exact a4, by rw [hge]⟩⟩, ?_, ?_, ?_, ?_, fun k => ?_, fun k => ?_⟩
    · rw [sFrom_len, sFrom_len]; omega
    · obtain ⟨k, hk, hb⟩ := (sFrom_mem 0 S b).1 hb
      refine (sFrom_mem 0 S2 b).2 ⟨k, by omega, ?_⟩
      rw [hg k hi]
      by_cases e : k = p.ch
      · subst e
        rw [hs0] at hb; cases hb
      · rw [if_neg e]; exact hb
    · unfold keepS; rw [hbit, Int.toNat_natCast, if_pos (.inr hclr)]
    · unfold dropS; rw [hbit, Int.toNat_natCast, if_pos (.inr hclr)]
    · refine (sFrom_mem 0 S2 _).2 ⟨p.ch, by omega, ?_⟩
      rw [hge, Nat.zero_add, hs1]
      unfold newB
      rw [if_neg (show ¬ kN (gS S p.ch).1 = 1 by omega), a3]
      exact List.mem_singleton.2 rfl
    · intro b hb b1 b2
      obtain ⟨k, hk, hb⟩ := (sFrom_mem 0 S2 b).1 hb
      have := sAt_ch hb
      obtain rfl : k = p.ch := by omega
      rw [hge, Nat.zero_add, hs1] at hb
      unfold newB
      rw [if_neg (show ¬ kN (gS S p.ch).1 = 1 by omega), a3]
      exact List.mem_singleton.1 hb
    · rw [hg k hi]
      split
      · rename_i e; rw [e]
      · rfl
    · rw [hg k hi]
      by_cases e : k = p.ch
      · rw [if_pos e, if_pos e, e, a5, a3]; rfl
      · rw [if_neg e, if_neg e]
structure DropOk (S S2 : List St) (p : Plc) : Prop where
  ok : SOk S2
  len : S2.length = S.length
  same : sFrom 0 S2 = sFrom 0 S
  noKeep : (keepS S2 p.ch p.ix p.cl p.mn).1 = false
  noDrop : (dropS S2 p.ch p.ix p.cl p.mn).1 = false
theorem drop_ok {S : List St} {p : Plc} (h : SOk S) (ht : TakenAt S p) : DropOk S (dropS S p.ch p.ix p.cl p.mn).2 p := by
  rw [drop_eq h ht]
  obtain ⟨hi, q⟩ := ht
  have hO := h.each _ hi
  rcases q with ⟨k1, a2, a3, a4⟩ | ⟨k2, a2, a3, a4, a5⟩
  · simp only [if_pos k1]
    obtain ⟨r1, r2, r3⟩ := hO.run k1
    have hg := gS_set S p.ch ((gS S p.ch).1, (gS S p.ch).2.1, clrN (gS S p.ch).2.2 (2 ^ p.ix))
    have hge : gS (S.set p.ch ((gS S p.ch).1, (gS S p.ch).2.1, clrN (gS S p.ch).2.2 (2 ^ p.ix))) p.ch = ((gS S p.ch).1, (gS S p.ch).2.1, clrN (gS S p.ch).2.2 (2 ^ p.ix)) := by rw [hg _ hi, if_pos rfl]
    have hok : SOk (S.set p.ch ((gS S p.ch).1, (gS S p.ch).2.1, clrN (gS S p.ch).2.2 (2 ^ p.ix))) := rerun_ok h hi k1 r1 (clr_lt r2) (and_clr r3)
    have hlen : (S.set p.ch ((gS S p.ch).1, (gS S p.ch).2.1, clrN (gS S p.ch).2.2 (2 ^ p.ix))).length = S.length := by simp
    generalize S.set p.ch ((gS S p.ch).1, (gS S p.ch).2.1, clrN (gS S p.ch).2.2 (2 ^ p.ix)) = S2 at *
    have hbit : bitS S2 p.ch p.ix p.cl p.mn = 2 ^ p.ix := bit_run (by omega) (by rw [hge]; exact k1) (by rw [hge]; exact a2) (by rw [hge]; exact a3)
    have hclr : (gS S2 p.ch).2.2 &&& 2 ^ p.ix = 0 := by rw [hge]; exact and_pow.2 (by rw [clr_bit]; simp)
    refine ⟨hok, hlen, sFrom_ext 0 _ _ hlen (fun k hk => ?_), ?_, ?_⟩
    · rw [hg k hi]
      by_cases e : k = p.ch
      · subst e
        rw [if_pos rfl]
        unfold sAt
        simp only [k1, if_true]
      · rw [if_neg e]
    · unfold keepS; rw [hbit, Int.toNat_natCast, if_pos (.inr hclr)]
    · unfold dropS; rw [hbit, Int.toNat_natCast, if_pos (.inr hclr)]
  · simp only [if_neg (show ¬ kN (gS S p.ch).1 = 1 by omega)]
    obtain ⟨m1, m2⟩ := huge_many h hi k2
    have hg := gS_fill0 (s := ((gS S p.ch).1, 0, 0)) m2 m1
    have hlen : (fillS (S.set p.ch ((gS S p.ch).1, 0, 0)) p.ch (0, 0, 0) (mN (gS S p.ch).1)).length = S.length := by rw [fill_len, List.length_set]
    generalize fillS (S.set p.ch ((gS S p.ch).1, 0, 0)) p.ch (0, 0, 0) (mN (gS S p.ch).1) = S2 at *
    obtain ⟨hok, hsame⟩ := clear_ok h hi k2 hlen hg
    have hge : gS S2 p.ch = (0, 0, 0) := by rw [hg, if_pos ⟨Nat.le_refl _, by omega⟩]
    have hbit : bitS S2 p.ch p.ix p.cl p.mn = 0 := bit_nonrun (by omega) (by rw [hge]; decide) a2
    refine ⟨hok, hlen, sFrom_ext 0 _ _ hlen (fun k hk => ?_), ?_, ?_⟩
    · rw [Nat.zero_add]
      by_cases e : k = p.ch
      · subst e
        rw [hge, sAt_zero rfl (by decide)]
        unfold sAt
        rw [if_neg (show ¬ kN (gS S p.ch).1 = 1 by omega), if_neg (fun q => by omega)]
      · exact hsame k hk e
    · unfold keepS; rw [hbit, if_pos (.inl rfl)]
    · unfold dropS; rw [hbit, if_pos (.inl rfl)]
structure FreeOk (S S2 : List St) (p : Plc) : Prop where
  ok : SOk S2
  len : S2.length = S.length
  less : (sFrom 0 S).length = (sFrom 0 S2).length + 1
  noFree : (freeS S2 p.ch p.ix p.cl p.mn).1 = false
theorem free_ok {S : List St} {p : Plc} (h : SOk S) (ht : LiveAt S p) : FreeOk S (freeS S p.ch p.ix p.cl p.mn).2 p := by
  rw [free_eq h ht]
  obtain ⟨hi, q⟩ := ht
  have hO := h.each _ hi
  rcases q with ⟨k1, a2, a3, a4⟩ | ⟨k2, a2, a3, a4, a5⟩
  · simp only [if_pos k1]
    obtain ⟨r1, r2, r3⟩ := hO.run k1
    have hg := gS_set S p.ch ((gS S p.ch).1, clrN (gS S p.ch).2.1 (2 ^ p.ix), (gS S p.ch).2.2)
    have hge : gS (S.set p.ch ((gS S p.ch).1, clrN (gS S p.ch).2.1 (2 ^ p.ix), (gS S p.ch).2.2)) p.ch = ((gS S p.ch).1, clrN (gS S p.ch).2.1 (2 ^ p.ix), (gS S p.ch).2.2) := by rw [hg _ hi, if_pos rfl]
    have hok : SOk (S.set p.ch ((gS S p.ch).1, clrN (gS S p.ch).2.1 (2 ^ p.ix), (gS S p.ch).2.2)) := rerun_ok h hi k1 (clr_lt r1) r2 (clr_and r3)
    have hsum := sum_set S p.ch ((gS S p.ch).1, clrN (gS S p.ch).2.1 (2 ^ p.ix), (gS S p.ch).2.2) hi
    have hcnt : cntS (gS S p.ch) = cntS ((gS S p.ch).1, clrN (gS S p.ch).2.1 (2 ^ p.ix), (gS S p.ch).2.2) + 1 := by
      unfold cntS sAt
      simp only [k1, if_true, List.length_map]
      exact live_less a3 a4
    have hlen : (S.set p.ch ((gS S p.ch).1, clrN (gS S p.ch).2.1 (2 ^ p.ix), (gS S p.ch).2.2)).length = S.length := by simp
    generalize S.set p.ch ((gS S p.ch).1, clrN (gS S p.ch).2.1 (2 ^ p.ix), (gS S p.ch).2.2) = S2 at *
    have hbit : bitS S2 p.ch p.ix p.cl p.mn = 2 ^ p.ix := bit_run (by omega) (by rw [hge]; exact k1) (by rw [hge]; exact a2) (by rw [hge]; exact a3)
    have hclr : (gS S2 p.ch).2.1 &&& 2 ^ p.ix = 0 := by rw [hge]; exact and_pow.2 (by rw [clr_bit]; simp)
    refine ⟨hok, hlen, ?_, ?_⟩
    · rw [sFrom_len, sFrom_len]; omega
    · unfold freeS; rw [hbit, Int.toNat_natCast, if_pos (.inr hclr)]
  · simp only [if_neg (show ¬ kN (gS S p.ch).1 = 1 by omega)]
    obtain ⟨m1, m2⟩ := huge_many h hi k2
    have hh := hO.huge k2
    have hg := gS_fill0 (s := ((gS S p.ch).1, 0, 0)) m2 m1
    have hlen : (fillS (S.set p.ch ((gS S p.ch).1, 0, 0)) p.ch (0, 0, 0) (mN (gS S p.ch).1)).length = S.length := by rw [fill_len, List.length_set]
    generalize fillS (S.set p.ch ((gS S p.ch).1, 0, 0)) p.ch (0, 0, 0) (mN (gS S p.ch).1) = S2 at *
    obtain ⟨hok, hsame⟩ := clear_ok h hi k2 hlen hg
    have hge : gS S2 p.ch = (0, 0, 0) := by rw [hg, if_pos ⟨Nat.le_refl _, by omega⟩]
    have hbit : bitS S2 p.ch p.ix p.cl p.mn = 0 := bit_nonrun (by omega) (by rw [hge]; decide) a2
    refine ⟨hok, hlen, ?_, ?_⟩
    · -- the other chunks have the same blocks: as with one more set
      have e1 : sFrom 0 S2 = sFrom 0 (S.set p.ch (0, 0, 0)) := sFrom_ext 0 _ _ (by simp [hlen]) (fun k hk => by
        rw [List.length_set] at hk
        rw [Nat.zero_add, gS_set _ _ _ _ hi]
        by_cases e : k = p.ch
        · rw [if_pos e, e, hge]
        · rw [if_neg e]; exact hsame k hk e)
      have hsum := sum_set S p.ch (0, 0, 0) hi
      have hc0 : cntS (gS S p.ch) = 1 := by unfold cntS sAt; rw [if_neg (by omega), if_pos ⟨k2, by omega⟩]; rfl
      have hc1 : cntS ((0, 0, 0) : St) = 0 := by decide
      rw [e1, sFrom_len, sFrom_len]; omega
    · unfold freeS; rw [hbit, if_pos (.inl rfl)]
end Go.Proofs.YtnjifmecaeagaaaDoor
