/-
  Mathematics of TileWhole: what blocks, rows and logs mark, no place twice, and none left out.
-/
import Derived.Test.YtnjifmecaeagaaaDoorSoL
set_option linter.unusedVariables false
namespace Go.Proofs.YtnjifmecaeagaaaDoor
/-- a range of places is given a value -/
def setR (s : List Nat) (a v : Nat) : Nat → List Nat
  | 0 => s
  | k + 1 => (setR s a v k).set (a + k) v
theorem setR_len (s : List Nat) (a v : Nat) : ∀ k, (setR s a v k).length = s.length
  | 0 => rfl
  | k + 1 => by rw [setR, List.length_set, setR_len s a v k]
theorem setR_at (s : List Nat) (a v : Nat) : ∀ m, a + m ≤ s.length → ∀ i, (setR s a v m).getD i 0 = if a ≤ i ∧ i < a + m then v else s.getD i 0
  | 0, _, i => by rw [if_neg (by omega)]; rfl
  | m + 1, h, i => by
    rw [setR, getD_set_ (by rw [setR_len]; omega), setR_at s a v m (by omega) i]
    by_cases e : i = a + m
    · rw [if_pos e, if_pos (by omega)]
    · rw [if_neg e]
      by_cases q : a ≤ i ∧ i < a + m
      · rw [if_pos q, if_pos (by omega)]
      · rw [if_neg q, if_neg (by omega)]
/-- a live block is marked -/
def mkB (s : List Nat) (b : Bl) : List Nat := if b.2.2 < 32 then s.set b.1 (s.getD b.1 0 ||| 1 ||| 2 ^ (16 + b.2.1)) else setR s b.1 2 (b.2.2 / 32)
/-- it may be marked -/
def okS (n : Nat) (s : List Nat) (b : Bl) : Prop := b.1 < n ∧ 1 ≤ b.2.2 ∧ b.2.2 ≤ 262112 ∧ (b.2.2 < 32 → b.2.1 < 8 ∧ s.getD b.1 0 / 2 ^ (16 + b.2.1) % 2 = 0 ∧ (b.2.1 + 1) * b.2.2 ≤ 32 ∧ s.getD b.1 0 < 16777216) ∧ (¬ b.2.2 < 32 → b.2.1 = 0 ∧ b.1 + b.2.2 / 32 ≤ n ∧ ∀ k, k < b.2.2 / 32 → s.getD (b.1 + k) 0 = 0)
def SafeL (n : Nat) : List Nat → List Bl → List Nat → Prop
  | s, [], s' => s = s'
  | s, b :: B, s' => okS n s b ∧ SafeL n (mkB s b) B s'
theorem SafeL.app {n : Nat} : ∀ {A : List Bl} {s s1 : List Nat} {B : List Bl} {s2 : List Nat}, SafeL n s A s1 → SafeL n s1 B s2 → SafeL n s (A ++ B) s2
  | [], _, _, _, _, h, g => by cases h; exact g
  | _ :: _, _, _, _, _, h, g => ⟨h.1, SafeL.app h.2 g⟩
theorem getD_set_self {s : List Nat} {i : Nat} (h : i < s.length) : s.set i (s.getD i 0) = s := by
  refine ext_getD (by rw [List.length_set]) fun k hk => ?_
  rw [getD_set_ h]
  by_cases e : k = i
  · rw [if_pos e, e]
  · rw [if_neg e]
theorem mark_lt {v j : Nat} (h : v < 2 ^ (16 + j)) : v ||| 1 ||| 2 ^ (16 + j) < 2 ^ (16 + (j + 1)) := by
  have h1 : (1 : Nat) < 2 ^ (16 + (j + 1)) := Nat.one_lt_two_pow (by omega)
  have h2 : 2 ^ (16 + j) < 2 ^ (16 + (j + 1)) := Nat.pow_lt_pow_right (by omega) (by omega)
  exact Nat.or_lt_two_pow (Nat.or_lt_two_pow (by omega) h1) h2
theorem mark_ne {v j : Nat} : ¬ v ||| 1 ||| 2 ^ (16 + j) = 0 := fun h => by
  have h1 := Nat.or_eq_zero_iff.1 h
  have h2 := Nat.or_eq_zero_iff.1 h1.1
  omega
theorem run_safe {n i U : Nat} (hi : i < n) (hU : 1 ≤ U) (hU2 : U < 32) : ∀ (L : List Nat) (c v : Nat) (s : List Nat), s.length = n + 1 → L.Pairwise (· < ·) → (∀ j ∈ L, c ≤ j ∧ j < 8 ∧ (j + 1) * U ≤ 32) → s.getD i 0 = v → v < 2 ^ (16 + c) →
    ∃ v', SafeL n s (L.map fun j => (i, j, U)) (s.set i v') ∧ (L ≠ [] → v' ≠ 0) ∧ (L = [] → v' = v)
  | [], c, v, s, hs, _, _, hv, _ => ⟨v, by subst hv; exact (getD_set_self (by omega)).symm, fun h => absurd rfl h, fun _ => rfl⟩
  | j :: L, c, v, s, hs, hp, hj, hv, hlt => by
    obtain ⟨j1, j2, j3⟩ := hj j (by simp)
    have hp' := List.pairwise_cons.1 hp
    have hvj : v < 2 ^ (16 + j) := Nat.lt_of_lt_of_le hlt (Nat.pow_le_pow_right (by omega) (by omega))
    have h24 : 2 ^ (16 + j) ≤ 2 ^ 23 := Nat.pow_le_pow_right (by omega) (by omega)
    have h23 : (2 : Nat) ^ 23 = 8388608 := by decide
    obtain ⟨v', h1, h2, h3⟩ := run_safe hi hU hU2 L (j + 1) (v ||| 1 ||| 2 ^ (16 + j)) (s.set i (v ||| 1 ||| 2 ^ (16 + j))) (by rw [List.length_set]; exact hs) hp'.2 (fun q hq => ⟨hp'.1 q hq, (hj q (by simp [hq])).2⟩) (by rw [getD_set_ (by omega), if_pos rfl]) (mark_lt hvj)
    refine ⟨v', ⟨⟨hi, hU, by show U ≤ 262112; omega, fun _ => ⟨j2, ?_, j3, ?_⟩, fun h => absurd hU2 h⟩, ?_⟩, fun _ => ?_, fun h => by cases h⟩
    · show s.getD i 0 / 2 ^ (16 + j) % 2 = 0
      rw [hv, Nat.div_eq_of_lt hvj]
    · show s.getD i 0 < 16777216
      rw [hv]; omega
    · have e : mkB s (i, j, U) = s.set i (v ||| 1 ||| 2 ^ (16 + j)) := by
        unfold mkB
        rw [if_pos hU2, hv]
      rw [e]
      rw [List.set_set] at h1
      exact h1
    · by_cases hL : L = []
      · rw [h3 hL]; exact mark_ne
      · exact h2 hL
/-- the tails that are wanted, from a place on -/
def runU : List Nat → Nat → Option Nat
  | [], r => some r
  | x :: u, r => (stepT x r).bind (runU u)
theorem runU_of (t : List Nat) : ∀ d k, k + d = t.length → (runT t k).bind (runU (t.drop k)) = runT t t.length
  | 0, k, h => by
    have e : k = t.length := by omega
    subst e
    rw [List.drop_length]
    cases runT t t.length <;> rfl
  | d + 1, k, h => by
    rw [← runU_of t d (k + 1) (by omega), List.drop_eq_getElem_cons (show k < t.length by omega)]
    rw [runT]
    have e : t.getD k 0 = t[k]'(by omega) := by rw [List.getD_eq_getElem?_getD, List.getElem?_eq_getElem (by omega)]; rfl
    rw [e]
    cases runT t k with
    | none => rfl
    | some r => rfl
theorem runU_len : ∀ (u : List Nat) (r : Nat), runU u r = some 0 → r ≤ u.length
  | [], r, h => by cases h; exact Nat.zero_le _
  | x :: u, r, h => by
    rw [runU] at h
    cases hs : stepT x r with
    | none => rw [hs] at h; cases h
    | some q =>
      rw [hs] at h
      have := runU_len u q h
      unfold stepT at hs
      split at hs
      · rename_i hd
        simp only [Option.some.injEq] at hs
        simp only [List.length_cons]
        by_cases h3 : kN x = 3
        · rw [if_pos h3] at hs; omega
        · rw [if_neg h3] at hs
          have : ¬ 0 < r := fun hr => by rw [decide_eq_false h3, decide_eq_true hr] at hd; cases hd
          omega
      · cases hs
/-- what a chunk's place holds behind all blocks -/
structure Fin1 (v x : Nat) : Prop where
  huge : kN x = 2 ∨ kN x = 3 → v = 2
  run : kN x = 1 → bN x ≠ 0 → v ≠ 0
  free : kN x = 0 ∨ kN x = 4 ∨ (kN x = 1 ∧ bN x = 0) → v = 0
theorem live_asc (b m : Nat) : (liveL b m).Pairwise (· < ·) := by unfold liveL; exact List.Pairwise.filter _ List.pairwise_lt_range
theorem live_in {b m j : Nat} (h : j ∈ liveL b m) : j < m := by unfold liveL at h; exact List.mem_range.1 (List.mem_filter.1 h).1
theorem live_nil {b m : Nat} (hb : b < 2 ^ m) : liveL b m = [] ↔ b = 0 := by
  constructor
  · intro h
    apply Nat.eq_of_testBit_eq
    intro j
    rw [Nat.zero_testBit]
    by_cases hj : j < m
    · cases ht : b.testBit j with
      | false => rfl
      | true =>
        have : j ∈ liveL b m := by unfold liveL; exact List.mem_filter.2 ⟨List.mem_range.2 hj, ht⟩
        rw [h] at this; cases this
    · exact Nat.testBit_lt_two_pow (Nat.lt_of_lt_of_le hb (Nat.pow_le_pow_right (by omega) (by omega)))
  · rintro rfl
    unfold liveL
    rw [List.filter_eq_nil_iff]
    intro j _
    simp
theorem cls (c : Nat) (h : c < 3) : (c = 0 ∨ c = 1 ∨ c = 2) ∧ 1 ≤ blN c ∧ blN c < 32 ∧ mnN c ≤ 8 ∧ ∀ j, j < mnN c → (j + 1) * blN c ≤ 32 := by
  have h3 : c = 0 ∨ c = 1 ∨ c = 2 := by omega
  refine ⟨h3, ?_⟩
  rcases h3 with rfl | rfl | rfl <;> refine ⟨by decide, by decide, by decide, fun j hj => ?_⟩
  · have : mnN 0 = 8 := rfl
    show (j + 1) * 4 ≤ 32
    omega
  · have : mnN 1 = 4 := rfl
    show (j + 1) * 8 ≤ 32
    omega
  · have : mnN 2 = 2 := rfl
    show (j + 1) * 16 ≤ 32
    omega
theorem blk_safe : ∀ (u : List Nat) (i r n : Nat) (s : List Nat), i + u.length = n → n ≤ 8000 → s.length = n + 1 → u.all okN = true → runU u r = some 0 → (∀ k, i ≤ k → k < n → s.getD k 0 = if k < i + r then 2 else 0) →
    ∃ s', SafeL n s (blksFrom i u) s' ∧ s'.length = n + 1 ∧ (∀ k, k < i → s'.getD k 0 = s.getD k 0) ∧ ∀ k, k < u.length → Fin1 (s'.getD (i + k) 0) (u.getD k 0)
  | [], i, r, n, s, hn, _, hs, _, _, _ => ⟨s, rfl, hs, fun _ _ => rfl, fun k hk => by simp at hk⟩
  | x :: u, i, r, n, s, hn, h80, hs, hok, hr, hst => by
    simp only [List.all_cons, Bool.and_eq_true] at hok
    have hR := (okN_t hok.1).2
    simp only [List.length_cons] at hn
    rw [runU] at hr
    obtain ⟨q, hq⟩ : ∃ q, stepT x r = some q := by
      cases h : stepT x r with
      | none => rw [h] at hr; cases hr
      | some q => exact ⟨q, rfl⟩
    rw [hq] at hr
    replace hr : runU u q = some 0 := hr
    have hql := runU_len u q hr
    have hqs : (kN x = 3 ∧ 0 < r ∧ q = r - 1) ∨ (¬ kN x = 3 ∧ r = 0 ∧ q = if kN x = 2 then mN x - 1 else r) := by
      unfold stepT at hq
      split at hq
      · rename_i hd
        simp only [Option.some.injEq] at hq
        by_cases h3 : kN x = 3
        · rw [if_pos h3] at hq
          rw [decide_eq_true h3] at hd
          exact .inl ⟨h3, of_decide_eq_true hd.symm, hq.symm⟩
        · rw [if_neg h3] at hq
          rw [decide_eq_false h3] at hd
          exact .inr ⟨h3, by have := of_decide_eq_false hd.symm; omega, hq.symm⟩
      · cases hq
    have hsi := hst i (Nat.le_refl _) (by omega)
    -- the state behind this chunk
    have key : ∃ s1, SafeL n s (blksAt i x) s1 ∧ s1.length = n + 1 ∧ (∀ k, k < i → s1.getD k 0 = s.getD k 0) ∧ (∀ k, i + 1 ≤ k → k < n → s1.getD k 0 = if k < i + 1 + q then 2 else 0) ∧ Fin1 (s1.getD i 0) x := by
      rcases hqs with ⟨h3, hr0, rfl⟩ | ⟨h3, rfl, hq2⟩
      · have hb : blksAt i x = [] := by unfold blksAt; rw [if_neg (by omega), if_neg (by omega)]
        rw [hb]
        refine ⟨s, rfl, hs, fun _ _ => rfl, fun k k1 k2 => ?_, ⟨fun _ => by rw [hsi, if_pos (by omega)], fun h => by omega, fun h => by omega⟩⟩
        rw [hst k (by omega) k2]
        by_cases c : k < i + r
        · rw [if_pos c, if_pos (by omega)]
        · rw [if_neg c, if_neg (by omega)]
      · rw [Nat.add_zero, if_neg (by omega)] at hsi
        by_cases h2 : kN x = 2
        · rw [if_pos h2] at hq2
          have hm : 1 ≤ mN x ∧ mN x ≤ 8191 := by omega
          have hb : blksAt i x = [(i, 0, mN x * 32)] := by unfold blksAt; rw [if_neg (by omega), if_pos h2]
          rw [hb]
          have hdiv : mN x * 32 / 32 = mN x := by omega
          have hmk : mkB s (i, 0, mN x * 32) = setR s i 2 (mN x) := by unfold mkB; rw [if_neg (show ¬ mN x * 32 < 32 by omega)]; show setR s i 2 (mN x * 32 / 32) = _; rw [hdiv]
          have hat := setR_at s i 2 (mN x) (by omega)
          refine ⟨setR s i 2 (mN x), ⟨⟨by show i < n; omega, by show 1 ≤ mN x * 32; omega, by show mN x * 32 ≤ 262112; omega, fun h => absurd h (show ¬ mN x * 32 < 32 by omega), fun _ => ⟨rfl, ?_, fun k hk => ?_⟩⟩, hmk⟩, by rw [setR_len, hs], fun k hk => ?_, fun k k1 k2 => ?_, ⟨fun _ => ?_, fun h => by omega, fun h => by omega⟩⟩
          · show i + mN x * 32 / 32 ≤ n
            omega
          · have hk' : k < mN x := by
              have : k < mN x * 32 / 32 := hk
              omega
            show s.getD (i + k) 0 = 0
            rw [hst (i + k) (by omega) (by omega), if_neg (by omega)]
          · rw [hat, if_neg (by omega)]
          · rw [hat]
            by_cases c : k < i + mN x
            · rw [if_pos (by omega), if_pos (by omega)]
            · rw [if_neg (by omega), if_neg (by omega), hst k (by omega) k2, if_neg (by omega)]
          · rw [hat, if_pos (by omega)]
        · rw [if_neg h2] at hq2
          subst hq2
          by_cases h1 : kN x = 1
          · have hc : cN x < 3 ∧ bN x < 2 ^ mnN (cN x) := by
              rcases hR with h | h | h | h
              · omega
              · obtain ⟨_, _, _, h⟩ := h
                rcases h with ⟨e, h⟩ | ⟨e, h⟩ | ⟨e, h⟩ <;> rw [e] <;> refine ⟨by omega, ?_⟩
                · show bN x < 2 ^ 8; have : (2 : Nat) ^ 8 = 256 := by decide
                  omega
                · show bN x < 2 ^ 4; have : (2 : Nat) ^ 4 = 16 := by decide
                  omega
                · show bN x < 2 ^ 2; have : (2 : Nat) ^ 2 = 4 := by decide
                  omega
              · omega
              · omega
            obtain ⟨_, u1, u2, u3, u4⟩ := cls (cN x) hc.1
            have hb : blksAt i x = (liveL (bN x) (mnN (cN x))).map (fun j => (i, j, blN (cN x))) := by unfold blksAt; rw [if_pos h1]
            rw [hb]
            obtain ⟨v', g1, g2, g3⟩ := run_safe (n := n) (i := i) (by omega) u1 u2 (liveL (bN x) (mnN (cN x))) 0 0 s hs (live_asc _ _) (fun j hj => by have := live_in hj; exact ⟨Nat.zero_le _, by omega, u4 j this⟩) hsi (Nat.two_pow_pos _)
            refine ⟨_, g1, by rw [List.length_set]; exact hs, fun k hk => ?_, fun k k1 k2 => ?_, ⟨fun h => by omega, fun _ hne => ?_, fun h => ?_⟩⟩
            · rw [getD_set_ (by omega), if_neg (by omega)]
            · rw [getD_set_ (by omega), if_neg (by omega), hst k (by omega) k2, if_neg (by omega), if_neg (by omega)]
            · rw [getD_set_ (by omega), if_pos rfl]
              exact g2 (fun e => hne ((live_nil hc.2).1 e))
            · rw [getD_set_ (by omega), if_pos rfl]
              exact g3 ((live_nil hc.2).2 (by omega))
          · have hb : blksAt i x = [] := by unfold blksAt; rw [if_neg h1, if_neg h2]
            rw [hb]
            refine ⟨s, rfl, hs, fun _ _ => rfl, fun k k1 k2 => ?_, ⟨fun h => by omega, fun h => by omega, fun _ => hsi⟩⟩
            rw [hst k (by omega) k2, if_neg (by omega), if_neg (by omega)]
    obtain ⟨s1, k1, k2, k3, k4, k5⟩ := key
    obtain ⟨s2, g1, g2, g3, g4⟩ := blk_safe u (i + 1) q n s1 (by omega) h80 k2 hok.2 hr k4
    refine ⟨s2, k1.app g1, g2, fun k hk => (g3 k (by omega)).trans (k3 k hk), fun k hk => ?_⟩
    cases k with
    | zero => rw [Nat.add_zero, g3 i (by omega)]; exact k5
    | succ k =>
      have := g4 k (by simpa using hk)
      rw [show i + 1 + k = i + (k + 1) by omega] at this
      exact this
/-- all chunks: none twice -/
theorem whole_safe {t : List Nat} {n : Nat} (h : rightT t = true) (hn : t.length = n) (h80 : n ≤ 8000) : ∃ s', SafeL n (List.replicate (n + 1) 0) (blksT t) s' ∧ s'.length = n + 1 ∧ ∀ k, k < n → Fin1 (s'.getD k 0) (t.getD k 0) := by
  obtain ⟨h1, h2⟩ := rightT_t h
  have hr : runU t 0 = some 0 := by
    have := runU_of t t.length 0 (by omega)
    rw [h2] at this
    exact this
  obtain ⟨s', g1, g2, _, g4⟩ := blk_safe t 0 0 n (List.replicate (n + 1) 0) (by omega) h80 (by simp) h1 hr (fun k _ hk => by rw [if_neg (by omega), List.getD_eq_getElem?_getD, List.getElem?_replicate, if_pos (by omega)]; rfl)
  refine ⟨s', ?_, g2, fun k hk => ?_⟩
  · unfold blksT; rw [if_pos h1]; exact g1
  · have := g4 k (by omega)
    rwa [Nat.zero_add] at this
/-- is a place in one of the first rows -/
def inRow (l : List (Nat × Nat)) (p i : Nat) : Prop := ∃ q, q < p ∧ (l.getD q default).1 ≤ i ∧ i < (l.getD q default).1 + (l.getD q default).2
structure RB (l : List (Nat × Nat)) (n p : Nat) (sA s : List Nat) : Prop where
  len : s.length = n + 1
  yes : ∀ i, i < n → inRow l p i → s.getD i 0 = 4
  no : ∀ i, i < n → ¬ inRow l p i → s.getD i 0 = sA.getD i 0
theorem RB.start (l : List (Nat × Nat)) {n : Nat} {s : List Nat} (h : s.length = n + 1) : RB l n 0 s s := ⟨h, fun i _ ⟨q, hq, _⟩ => by omega, fun i _ _ => rfl⟩
theorem RB.zero {f : Nat → Bool} {l : List (Nat × Nat)} {n p : Nat} {sA s : List Nat} (h : RB l n p sA s) (hR : RowsOk f n l) (hp : p < l.length) (hz : ∀ i, i < n → f i = true → sA.getD i 0 = 0) {a m : Nat} (hx : l.getD p default = (a, m)) : a + m ≤ n ∧ ∀ k, k < m → s.getD (a + k) 0 = 0 := by
  have hk := hR.each p hp
  rw [hx] at hk
  have ht := hk.top
  simp only at ht
  refine ⟨ht, fun k hkm => ?_⟩
  rw [h.no (a + k) (by omega) (fun ⟨q, q1, q2, q3⟩ => by
    have := rows_sort hR (p - q - 1) q (by omega)
    rw [show q + (p - q - 1) + 1 = p by omega, hx] at this
    simp only at this
    omega)]
  exact hz _ (by omega) (hk.all k hkm)
theorem RB.step {l : List (Nat × Nat)} {n p a m : Nat} {sA s : List Nat} (h : RB l n p sA s) (hx : l.getD p default = (a, m)) (ht : a + m ≤ n) : RB l n (p + 1) sA (setR s a 4 m) := by
  have hat := setR_at s a 4 m (by have := h.len; omega)
  refine ⟨by rw [setR_len]; exact h.len, fun i hi ⟨q, q1, q2, q3⟩ => ?_, fun i hi hno => ?_⟩
  · rw [hat]
    by_cases c : a ≤ i ∧ i < a + m
    · rw [if_pos c]
    · rw [if_neg c]
      refine h.yes i hi ⟨q, ?_, q2, q3⟩
      by_cases e : q = p
      · subst e; rw [hx] at q2 q3; exact absurd ⟨q2, q3⟩ c
      · omega
  · rw [hat, if_neg (fun c => hno ⟨p, by omega, by rw [hx]; exact c.1, by rw [hx]; exact c.2⟩)]
    exact h.no i hi (fun ⟨q, q1, q2, q3⟩ => hno ⟨q, by omega, q2, q3⟩)
/-- behind all rows -/
theorem RB.done {f : Nat → Bool} {l : List (Nat × Nat)} {n : Nat} {sA s : List Nat} (h : RB l n l.length sA s) (hR : RowsOk f n l) : ∀ i, i < n → s.getD i 0 = if f i = true then 4 else sA.getD i 0 := fun i hi => by
  by_cases hf : f i = true
  · rw [if_pos hf]
    obtain ⟨q, q1, q2, q3⟩ := hR.cover i hi hf
    exact h.yes i hi ⟨q, q1, q2, q3⟩
  · rw [if_neg hf]
    refine h.no i hi (fun ⟨q, q1, q2, q3⟩ => hf ?_)
    have := (hR.each q q1).all (i - (l.getD q default).1) (by omega)
    rwa [show (l.getD q default).1 + (i - (l.getD q default).1) = i by omega] at this
theorem log8w {t : List Nat} (h : t.all okN = true) : ∀ i, i < t.length → kN (t.getD i 0) = 4 → mN (t.getD i 0) < 8 := fun i hi hk => by
  have := (okN_t (all_at h hi)).2
  omega
/-- logs that are marked -/
structure LB (t : List Nat) (n lane p : Nat) (L : List Nat) (sB s : List Nat) : Prop where
  len : s.length = n + 1
  yes : ∀ i, i < n → kN (t.getD i 0) = 4 → (lnN (t.getD i 0) < lane ∨ (∃ q, q < p ∧ L.getD q 0 = i)) → s.getD i 0 = 8
  no : ∀ i, i < n → ¬ (kN (t.getD i 0) = 4 ∧ (lnN (t.getD i 0) < lane ∨ (∃ q, q < p ∧ L.getD q 0 = i))) → s.getD i 0 = sB.getD i 0
theorem LB.start (t L : List Nat) {n : Nat} {s : List Nat} (h : s.length = n + 1) : LB t n 0 0 L s s := ⟨h, fun i _ _ hq => by rcases hq with q | ⟨q, q1, _⟩ <;> omega, fun i _ _ => rfl⟩
theorem logsR_in {t : List Nat} {lane : Int} {m x : Nat} (h : x ∈ logsR t lane m) : x < t.length ∧ kN (t.getD x 0) = 4 ∧ ((lnN (t.getD x 0) : Nat) : Int) = lane := by
  unfold logsR logsN isLog at h
  simp only [List.mem_filter, List.mem_range, List.mem_flatMap, Bool.and_eq_true, decide_eq_true_eq] at h
  obtain ⟨_, _, h1, ⟨h2, h3⟩, _⟩ := h
  exact ⟨h1, h2, h3⟩
theorem LB.at {t : List Nat} {n lane p : Nat} {L sB s : List Nat} (h : LB t n lane p L sB s) (hn : t.length = n) (hL : L = logsR t (lane : Nat) 8) (hp : p < L.length) (hz : ∀ i, i < n → kN (t.getD i 0) = 4 → sB.getD i 0 = 0) : L.getD p 0 < n ∧ s.getD (L.getD p 0) 0 = 0 := by
  have hm : L.getD p 0 ∈ logsR t (lane : Nat) 8 := by rw [← hL, List.getD_eq_getElem?_getD, List.getElem?_eq_getElem hp]; exact List.getElem_mem _
  obtain ⟨h1, h2, h3⟩ := logsR_in hm
  have hs := pair_srt (logsR_srt t (lane : Nat) n (by omega) 8)
  rw [← hL] at hs
  refine ⟨by omega, ?_⟩
  have hno : ¬ (kN (t.getD (L.getD p 0) 0) = 4 ∧ (lnN (t.getD (L.getD p 0) 0) < lane ∨ (∃ q, q < p ∧ L.getD q 0 = L.getD p 0))) := fun ⟨_, hq⟩ => by
    rcases hq with hq | ⟨q, q1, q2⟩
    · omega
    · have := hs q p (Nat.zero_le _) q1 hp
      rw [q2] at this
      omega
  rw [h.no _ (by omega) hno]
  exact hz _ (by omega) h2
theorem LB.step {t : List Nat} {n lane p : Nat} {L sB s : List Nat} (h : LB t n lane p L sB s) (hk : kN (t.getD (L.getD p 0) 0) = 4) (hi : L.getD p 0 < n) : LB t n lane (p + 1) L sB (s.set (L.getD p 0) 8) := by
  have hl := h.len
  refine ⟨by rw [List.length_set]; exact hl, fun i i1 i2 i3 => ?_, fun i i1 i2 => ?_⟩
  · rw [getD_set_ (by omega)]
    by_cases e : i = L.getD p 0
    · rw [if_pos e]
    · rw [if_neg e]
      refine h.yes i i1 i2 ?_
      rcases i3 with q | ⟨q, q1, q2⟩
      · exact .inl q
      · refine .inr ⟨q, ?_, q2⟩
        by_cases e2 : q = p
        · subst e2; exact absurd q2.symm e
        · omega
  · rw [getD_set_ (by omega), if_neg (fun e => i2 ⟨by rw [e]; exact hk, .inr ⟨p, by omega, e.symm⟩⟩)]
    refine h.no i i1 (fun ⟨a, b⟩ => i2 ⟨a, ?_⟩)
    rcases b with b | ⟨q, q1, q2⟩
    · exact .inl b
    · exact .inr ⟨q, by omega, q2⟩
theorem LB.lane {t : List Nat} {n lane : Nat} {L L' sB s : List Nat} (h : LB t n lane L.length L sB s) (hn : t.length = n) (hok : t.all okN = true) (hL : L = logsR t (lane : Nat) 8) : LB t n (lane + 1) 0 L' sB s := by
  refine ⟨h.len, fun i i1 i2 i3 => h.yes i i1 i2 ?_, fun i i1 i2 => h.no i i1 (fun ⟨a, b⟩ => i2 ⟨a, ?_⟩)⟩
  · rcases i3 with q | ⟨q, q1, _⟩
    · by_cases e : lnN (t.getD i 0) = lane
      · have hm : i ∈ L := by
          rw [hL]
          unfold logsR logsN isLog
          simp only [List.mem_filter, List.mem_range, List.mem_flatMap, Bool.and_eq_true, decide_eq_true_eq]
          exact ⟨_, log8w hok i (by omega) i2, by omega, ⟨i2, by omega⟩, rfl⟩
        obtain ⟨k, hk, e2⟩ := List.mem_iff_getElem.1 hm
        exact .inr ⟨k, hk, by rw [List.getD_eq_getElem?_getD, List.getElem?_eq_getElem hk]; exact e2⟩
      · exact .inl (by omega)
    · omega
  · rcases b with b | ⟨q, q1, q2⟩
    · exact .inl (by omega)
    · have hm : i ∈ logsR t (lane : Nat) 8 := by rw [← hL, ← q2, List.getD_eq_getElem?_getD, List.getElem?_eq_getElem q1]; exact List.getElem_mem _
      have := (logsR_in hm).2.2
      exact .inl (by omega)
/-- behind all no place is left -/
theorem LB.done {t : List Nat} {n : Nat} {L sA sB s : List Nat} (h : LB t n 64 0 L sB s) (hn : t.length = n) (hok : t.all okN = true) (hA : ∀ k, k < n → Fin1 (sA.getD k 0) (t.getD k 0)) (hB : ∀ i, i < n → sB.getD i 0 = if mayN (t.getD i 0) = true then 4 else sA.getD i 0) : ∀ i, i < n → ¬ s.getD i 0 = 0 := fun i hi hz => by
  have hR := (okN_t (all_at hok (k := i) (by omega))).2
  have hF := hA i hi
  by_cases h4 : kN (t.getD i 0) = 4
  · have := h.yes i hi h4 (.inl (parts_bd (t.getD i 0)).2.2.1)
    omega
  · rw [h.no i hi (fun q => h4 q.1), hB i hi] at hz
    by_cases hm : mayN (t.getD i 0) = true
    · rw [if_pos hm] at hz; omega
    · rw [if_neg hm] at hz
      have hm' : ¬ kN (t.getD i 0) = 0 ∧ ¬ (kN (t.getD i 0) = 1 ∧ bN (t.getD i 0) = 0) := by
        unfold mayN at hm
        simp only [Bool.or_eq_true, decide_eq_true_eq, not_or] at hm
        exact hm
      by_cases h23 : kN (t.getD i 0) = 2 ∨ kN (t.getD i 0) = 3
      · have := hF.huge h23; omega
      · by_cases h1 : kN (t.getD i 0) = 1
        · exact hF.run h1 (fun e => hm'.2 ⟨h1, e⟩) hz
        · omega
end Go.Proofs.YtnjifmecaeagaaaDoor
