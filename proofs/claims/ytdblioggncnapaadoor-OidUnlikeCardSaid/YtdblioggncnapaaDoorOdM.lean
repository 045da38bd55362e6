/-
  Package oid, mathematics: decimal numerals, texts cut at full stops, names.
-/
import Derived.Test.YtdblioggncnapaaDoorRows
import Derived.Lib.ItoaNum
import Derived.Lib.Split
import Derived.Lib.SplitLaws
set_option linter.unusedVariables false
set_option linter.unusedSimpArgs false
namespace Go.Proofs.YtdblioggncnapaaDoor
open Go.Lib
def isDg (b : UInt8) : Bool := decide (48 ≤ b.toNat) && decide (b.toNat ≤ 57)
def valF (n : Nat) (l : List UInt8) : Nat := l.foldl (fun n b => n * 10 + (b.toNat - 48)) n
def valL (l : List UInt8) : Nat := valF 0 l
/-- a numeral, with no digit more than it must have -/
def canon (l : List UInt8) : Bool := !l.isEmpty && l.all isDg && (decide (l.length = 1) || !(l.head? == some 48))
def numO (l : List UInt8) : Option Nat := if canon l then some (valL l) else none
def numC (l : List UInt8) (most : Nat) : Nat × Bool := match numO l with
  | some v => if v ≤ most then (v, true) else (0, false)
  | none => (0, false)
theorem valF_app (n : Nat) (p q : List UInt8) : valF n (p ++ q) = valF (valF n p) q := List.foldl_append
theorem valL_snoc (p : List UInt8) (b : UInt8) : valL (p ++ [b]) = valL p * 10 + (b.toNat - 48) := by unfold valL; rw [valF_app]; rfl
theorem valF_ge : ∀ (q : List UInt8) (n : Nat), n * 10 ^ q.length ≤ valF n q
  | [], n => by simp [valF]
  | b :: q, n => by
    have h := valF_ge q (n * 10 + (b.toNat - 48))
    have e : valF n (b :: q) = valF (n * 10 + (b.toNat - 48)) q := rfl
    rw [e, List.length_cons, Nat.pow_succ]
    refine Nat.le_trans ?_ h
    rw [Nat.mul_comm (10 ^ q.length) 10, ← Nat.mul_assoc]
    exact Nat.mul_le_mul_right _ (by omega)
theorem valL_take {l : List UInt8} (k : Nat) : valL (l.take k) ≤ valL l := by
  have e : l.take k ++ l.drop k = l := List.take_append_drop k l
  have h := valF_ge (l.drop k) (valL (l.take k))
  have h2 : valL l = valF (valL (l.take k)) (l.drop k) := by
    conv => lhs; rw [← e]
    unfold valL; rw [valF_app]
  rw [h2]
  refine Nat.le_trans ?_ h
  exact Nat.le_mul_of_pos_right _ (Nat.pow_pos (by omega))
theorem canon_t {l : List UInt8} (h : canon l = true) : l ≠ [] ∧ (∀ b ∈ l, isDg b = true) ∧ (l.length = 1 ∨ l.head? ≠ some 48) := by
  unfold canon at h
  simp only [Bool.and_eq_true, Bool.not_eq_true', List.isEmpty_eq_false_iff, List.all_eq_true, Bool.or_eq_true, decide_eq_true_eq, beq_eq_false_iff_ne] at h
  exact ⟨h.1.1, h.1.2, h.2⟩
theorem canon_mk {l : List UInt8} (h1 : l ≠ []) (h2 : ∀ b ∈ l, isDg b = true) (h3 : l.length = 1 ∨ l.head? ≠ some 48) : canon l = true := by
  unfold canon
  simp only [Bool.and_eq_true, Bool.not_eq_true', List.isEmpty_eq_false_iff, List.all_eq_true, Bool.or_eq_true, decide_eq_true_eq, beq_eq_false_iff_ne]
  exact ⟨⟨h1, h2⟩, h3⟩
theorem dg_toNat {d : Nat} (h : d < 10) : (UInt8.ofNat (48 + d)).toNat = 48 + d := by
  rw [UInt8.toNat_ofNat']; omega
theorem dg_is {d : Nat} (h : d < 10) : isDg (UInt8.ofNat (48 + d)) = true := by
  unfold isDg; rw [dg_toNat h, decide_eq_true (by omega), decide_eq_true (by omega)]; rfl
theorem dec_small {u : Nat} (h : u < 10) : decDigits u = [UInt8.ofNat (48 + u)] := by rw [decDigits, dif_pos h]
theorem dec_big {u : Nat} (h : ¬ u < 10) : decDigits u = decDigits (u / 10) ++ [UInt8.ofNat (48 + u % 10)] := by rw [decDigits, dif_neg h]
theorem dec_ok (u : Nat) : decDigits u ≠ [] ∧ (∀ b ∈ decDigits u, isDg b = true) ∧ valL (decDigits u) = u ∧ (1 ≤ u → (decDigits u).head? ≠ some 48) := by
  induction u using Nat.strongRecOn with
  | _ u ih =>
    by_cases h : u < 10
    · rw [dec_small h]
      refine ⟨by simp, fun b hb => ?_, ?_, fun h1 => ?_⟩
      · rw [List.mem_singleton] at hb; subst hb; exact dg_is h
      · show 0 * 10 + ((UInt8.ofNat (48 + u)).toNat - 48) = u
        rw [dg_toNat h]; omega
      · intro e
        simp only [List.head?_cons, Option.some.injEq] at e
        have := congrArg UInt8.toNat e
        rw [dg_toNat h] at this
        have h48 : (48 : UInt8).toNat = 48 := rfl
        omega
    · obtain ⟨a1, a2, a3, a4⟩ := ih (u / 10) (by omega)
      have hd := dg_is (d := u % 10) (by omega)
      have ht := dg_toNat (d := u % 10) (by omega)
      rw [dec_big h]
      refine ⟨by simp, fun b hb => ?_, ?_, fun _ => ?_⟩
      · rcases List.mem_append.1 hb with hb | hb
        · exact a2 b hb
        · rw [List.mem_singleton] at hb; subst hb; exact hd
      · rw [valL_snoc, a3, ht]; omega
      · have a5 := a4 (by omega)
        cases hx : decDigits (u / 10) with
        | nil => exact absurd hx a1
        | cons x t => rw [hx] at a5; exact a5
theorem dec_canon (u : Nat) : canon (decDigits u) = true := by
  obtain ⟨h1, h2, h3, h4⟩ := dec_ok u
  refine canon_mk h1 h2 ?_
  by_cases h : u < 10
  · rw [dec_small h]; exact .inl rfl
  · exact .inr (h4 (by omega))
theorem num_dec (u : Nat) : numO (decDigits u) = some u := by unfold numO; rw [dec_canon, if_pos rfl, (dec_ok u).2.2.1]
theorem dg_back {b : UInt8} (h : isDg b = true) : b.toNat - 48 < 10 ∧ UInt8.ofNat (48 + (b.toNat - 48)) = b := by
  unfold isDg at h
  simp only [Bool.and_eq_true, decide_eq_true_eq] at h
  refine ⟨by omega, ?_⟩
  rw [show 48 + (b.toNat - 48) = b.toNat by omega]
  exact UInt8.ofNat_toNat
theorem dec_val : ∀ (k : Nat) (l : List UInt8), l.length = k → canon l = true → decDigits (valL l) = l ∧ (l.head? ≠ some 48 → 1 ≤ valL l)
  | 0, l, hk, h => absurd (List.length_eq_zero_iff.1 hk) (canon_t h).1
  | k + 1, l', hk, h => by
    obtain ⟨h1, h2, h3⟩ := canon_t h
    rcases List.eq_nil_or_concat l' with rfl | ⟨p, b, rfl⟩
    · exact absurd rfl h1
    rw [List.concat_eq_append] at hk h h1 h2 h3 ⊢
    rw [List.length_append, List.length_singleton] at hk
    obtain ⟨d1, d2⟩ := dg_back (h2 b (List.mem_append_right _ (List.mem_singleton.2 rfl)))
    by_cases hp : p = []
    · subst hp
      have e : valL ([] ++ [b]) = b.toNat - 48 := by rw [valL_snoc]; show 0 * 10 + _ = _; omega
      rw [e, dec_small d1, d2]
      refine ⟨rfl, fun hh => ?_⟩
      have hdg := h2 b (by simp)
      unfold isDg at hdg
      simp only [Bool.and_eq_true, decide_eq_true_eq] at hdg
      by_cases h48 : b.toNat = 48
      · exact absurd (by simp only [List.nil_append, List.head?_cons]; exact congrArg some (UInt8.toNat_inj.1 h48)) hh
      · omega
    · have hpl : 1 ≤ p.length := by cases p with | nil => exact absurd rfl hp | cons _ _ => simp
      have hh : (p ++ [b]).head? = p.head? := by cases p with | nil => exact absurd rfl hp | cons _ _ => rfl
      have hne : p.head? ≠ some 48 := by
        rcases h3 with q | q
        · rw [List.length_append, List.length_singleton] at q; omega
        · rw [← hh]; exact q
      obtain ⟨e1, e2⟩ := dec_val k p (by omega) (canon_mk hp (fun x hx => h2 x (List.mem_append_left _ hx)) (.inr hne))
      have e3 := e2 hne
      have e4 : valL (p ++ [b]) = valL p * 10 + (b.toNat - 48) := valL_snoc p b
      refine ⟨?_, fun _ => by omega⟩
      rw [e4, dec_big (by omega), show (valL p * 10 + (b.toNat - 48)) / 10 = valL p by omega, show (valL p * 10 + (b.toNat - 48)) % 10 = b.toNat - 48 by omega, e1, d2]
theorem num_val {l : List UInt8} {v : Nat} (h : numO l = some v) : decDigits v = l := by
  unfold numO at h
  split at h
  · rename_i hc
    cases h
    exact (dec_val _ l rfl hc).1
  · cases h
/-- what a numeral's beginning tells -/
theorem num_none_dg {l : List UInt8} {b : UInt8} (hb : b ∈ l) (h : isDg b = false) : numO l = none := by
  unfold numO
  rw [if_neg]
  intro hc
  have := (canon_t hc).2.1 b hb
  rw [h] at this; cases this
theorem num_none_zero {l : List UInt8} (h1 : l.head? = some 48) (h2 : ¬ l.length = 1) : numO l = none := by
  unfold numO
  rw [if_neg]
  intro hc
  rcases (canon_t hc).2.2 with q | q
  · exact h2 q
  · exact q h1
theorem num_nil : numO [] = none := rfl
theorem numC_none {l : List UInt8} {m : Nat} (h : numO l = none) : numC l m = (0, false) := by unfold numC; rw [h]
theorem numC_over {l : List UInt8} {m : Nat} (h : m < valL l) : numC l m = (0, false) := by
  unfold numC numO
  by_cases hc : canon l = true
  · rw [if_pos hc]
    show (if valL l ≤ m then _ else _) = _
    rw [if_neg (by omega)]
  · rw [if_neg hc]
theorem numC_ok {l : List UInt8} {m : Nat} (h : canon l = true) (hv : valL l ≤ m) : numC l m = (valL l, true) := by
  unfold numC numO
  rw [if_pos h]
  show (if valL l ≤ m then _ else _) = _
  rw [if_pos hv]
/-- a beginning that went well so far -/
structure Good (l : List UInt8) (k n : Nat) : Prop where
  dg : ∀ b ∈ l.take k, isDg b = true
  val : n = valL (l.take k)
  zero : k = 1 ∨ k = 0 ∨ l.head? ≠ some 48
theorem Good.start (l : List UInt8) : Good l 0 0 := ⟨fun b hb => by simp at hb, rfl, .inr (.inl rfl)⟩
theorem take_snoc8 {l : List UInt8} {k : Nat} (h : k < l.length) : l.take (k + 1) = l.take k ++ [l.getD k 0] := by
  rw [List.take_succ_eq_append_getElem h, List.getD_eq_getElem?_getD, List.getElem?_eq_getElem h]; rfl
theorem Good.step {l : List UInt8} {k n : Nat} (h : Good l k n) (hk : k < l.length) (hd : isDg (l.getD k 0) = true) (hz : k = 0 ∨ ¬ n = 0) : Good l (k + 1) (n * 10 + ((l.getD k 0).toNat - 48)) := by
  refine ⟨fun b hb => ?_, ?_, ?_⟩
  · rw [take_snoc8 hk] at hb
    rcases List.mem_append.1 hb with hb | hb
    · exact h.dg b hb
    · rw [List.mem_singleton] at hb; subst hb; exact hd
  · rw [take_snoc8 hk, valL_snoc, h.val]
  · rcases hz with rfl | hz
    · exact .inl rfl
    · rcases h.zero with q | q | q
      · subst q
        refine .inr (.inr fun e => hz ?_)
        rw [h.val]
        cases l with
        | nil => cases e
        | cons b t =>
          simp only [List.head?_cons, Option.some.injEq] at e
          subst e; rfl
      · subst q
        exact absurd (by rw [h.val]; rfl) hz
      · exact .inr (.inr q)
theorem Good.fin {l : List UInt8} {n : Nat} (h : Good l l.length n) (h0 : ¬ l.length = 0) : canon l = true ∧ n = valL l := by
  have h1 := h.dg
  have h2 := h.val
  rw [List.take_length] at h1 h2
  refine ⟨canon_mk (fun e => h0 (by rw [e]; rfl)) h1 ?_, h2⟩
  rcases h.zero with q | q | q
  · exact .inl q
  · exact absurd q h0
  · exact .inr q
theorem getD_mem8 {l : List UInt8} {k : Nat} (h : k < l.length) : l.getD k 0 ∈ l := by
  rw [List.getD_eq_getElem?_getD, List.getElem?_eq_getElem h]; exact List.getElem_mem h
theorem Good.zeroOut {l : List UInt8} {k n : Nat} (h : Good l k n) (hk : k < l.length) (h0 : 0 < k) (hn : n = 0) : numO l = none := by
  rcases h.zero with q | q | q
  · subst q
    have hd := h.dg
    have hv := h.val
    cases l with
    | nil => simp at hk
    | cons b t =>
      have hb := hd b (by simp)
      have e : b.toNat = 48 := by
        rw [hn] at hv
        have : valL ((b :: t).take 1) = b.toNat - 48 := by show 0 * 10 + _ = _; omega
        rw [this] at hv
        unfold isDg at hb
        simp only [Bool.and_eq_true, decide_eq_true_eq] at hb
        omega
      refine num_none_zero ?_ (by intro e; simp at hk e; subst e; simp at hk)
      simp only [List.head?_cons]
      exact congrArg some (UInt8.toNat_inj.1 e)
  · omega
  · unfold numO
    rw [if_neg]
    intro hc
    have hp : 1 ≤ (l.take k).length := by rw [List.length_take]; omega
    have hh : (l.take k).head? = l.head? := by cases l with | nil => simp at hk | cons b t => cases k with | zero => omega | succ k => rfl
    have hcp : canon (l.take k) = true := canon_mk (fun e => by rw [e] at hp; simp at hp) h.dg (.inr (by rw [hh]; exact q))
    have := (dec_val _ (l.take k) rfl hcp).2 (by rw [hh]; exact q)
    rw [← h.val] at this
    omega
theorem Good.over {l : List UInt8} {k m : Nat} (h : m < valL (l.take k)) : numC l m = (0, false) := numC_over (Nat.lt_of_lt_of_le h (valL_take k))
theorem num_long {l : List UInt8} (h : 20 < l.length) : numC l 18446744073709551615 = (0, false) := by
  by_cases hc : canon l = true
  · obtain ⟨h1, h2, h3⟩ := canon_t hc
    have hne : l.head? ≠ some 48 := by rcases h3 with q | q; omega; exact q
    refine numC_over ?_
    cases l with
    | nil => exact absurd rfl h1
    | cons b t =>
      have hb := h2 b (by simp)
      unfold isDg at hb
      simp only [Bool.and_eq_true, decide_eq_true_eq] at hb
      have hb48 : ¬ b.toNat = 48 := fun e => hne (by simp only [List.head?_cons]; exact congrArg some (UInt8.toNat_inj.1 e))
      have e : valL (b :: t) = valF (0 * 10 + (b.toNat - 48)) t := rfl
      rw [e]
      have hg := valF_ge t (0 * 10 + (b.toNat - 48))
      have hp : 10 ^ 20 ≤ 10 ^ t.length := Nat.pow_le_pow_right (by omega) (by simp at h; omega)
      have hq : 1 * 10 ^ t.length ≤ (0 * 10 + (b.toNat - 48)) * 10 ^ t.length := Nat.mul_le_mul_right _ (by omega)
      have h20 : (10 : Nat) ^ 20 = 100000000000000000000 := by decide
      omega
  · exact numC_none (by unfold numO; rw [if_neg hc])
/-- a text cut at its full stops -/
def splitD : List UInt8 → List (List UInt8)
  | [] => [[]]
  | b :: l => if b = 46 then [] :: splitD l else (match splitD l with
    | [] => [[b]]
    | p :: r => (b :: p) :: r)
theorem splitD_ne (l : List UInt8) : splitD l ≠ [] := by
  cases l with
  | nil => simp [splitD]
  | cons b l =>
    unfold splitD
    split
    · simp
    · split <;> simp
theorem splitD_dot (l : List UInt8) : splitD (46 :: l) = [] :: splitD l := by rw [splitD, if_pos rfl]
theorem splitD_other {b : UInt8} (h : ¬ b = 46) {l p : List UInt8} {r : List (List UInt8)} (hs : splitD l = p :: r) : splitD (b :: l) = (b :: p) :: r := by rw [splitD, if_neg h, hs]
theorem splitD_app : ∀ (a l : List UInt8), (∀ b ∈ a, ¬ b = 46) → ∀ p r, splitD l = p :: r → splitD (a ++ l) = (a ++ p) :: r
  | [], _, _, _, _, h => h
  | b :: a, l, ha, p, r, h => splitD_other (ha b (by simp)) (splitD_app a l (fun x hx => ha x (by simp [hx])) p r h)
theorem splitD_one {a : List UInt8} (h : ∀ b ∈ a, ¬ b = 46) : splitD a = [a] := by
  have := splitD_app a [] h [] [] rfl
  rw [List.append_nil] at this
  exact this
theorem splitD_cons {a l : List UInt8} (h : ∀ b ∈ a, ¬ b = 46) : splitD (a ++ 46 :: l) = a :: splitD l := by
  have := splitD_app a (46 :: l) h [] (splitD l) (splitD_dot l)
  rw [List.append_nil] at this
  exact this
/-- put together again -/
def joinD : List (List UInt8) → List UInt8
  | [] => []
  | [p] => p
  | p :: q :: r => p ++ 46 :: joinD (q :: r)
theorem join_split : ∀ l : List UInt8, joinD (splitD l) = l
  | [] => rfl
  | b :: l => by
    have ih := join_split l
    cases hs : splitD l with
    | nil => exact absurd hs (splitD_ne l)
    | cons p r =>
      rw [hs] at ih
      by_cases h : b = 46
      · subst h
        rw [splitD_dot, hs]
        show [] ++ 46 :: joinD (p :: r) = _
        rw [ih]; rfl
      · rw [splitD_other h hs]
        cases r with
        | nil => show b :: p = b :: l; rw [← ih]; rfl
        | cons q r => show b :: p ++ 46 :: joinD (q :: r) = b :: l; rw [← ih]; rfl
theorem split_len (l : List UInt8) : ∀ p ∈ splitD l, p.length ≤ l.length := by
  induction l with
  | nil => intro p hp; simp [splitD] at hp; subst hp; exact Nat.le_refl _
  | cons b l ih =>
    intro p hp
    by_cases h : b = 46
    · subst h
      rw [splitD_dot] at hp
      rcases List.mem_cons.1 hp with rfl | hp
      · exact Nat.zero_le _
      · have := ih p hp; simp; omega
    · cases hs : splitD l with
      | nil => exact absurd hs (splitD_ne l)
      | cons q r =>
        rw [splitD_other h hs] at hp
        rw [hs] at ih
        rcases List.mem_cons.1 hp with rfl | hp
        · have := ih q (by simp); simp; omega
        · have := ih p (by simp [hp]); simp; omega
/-- the library's answer is this one -/
theorem index_one (b c : UInt8) (l : List UInt8) : index (b :: l) [c] = if b = c then 0 else if index l [c] = -1 then -1 else index l [c] + 1 := by
  rw [index]
  by_cases h : b = c
  · subst h; rw [if_pos rfl, if_pos (by simp [List.isPrefixOf])]
  · rw [if_neg h, if_neg (by simp [List.isPrefixOf]; exact fun e => h e.symm)]
    by_cases e : index l [c] = -1
    · rw [if_pos e, if_pos (beq_iff_eq.2 e)]
    · rw [if_neg e, if_neg (fun q => e (beq_iff_eq.1 q))]
theorem split_is : ∀ l : List UInt8, split l [46] = splitD l
  | [] => rfl
  | b :: l => by
    have ih := split_is l
    unfold split at ih ⊢
    by_cases h : b = 46
    · subst h
      rw [count_cons_eq, splitD_dot, ← ih, Nat.add_comm, splitK]
      have e : index (46 :: l) [46] = 0 := by rw [index_one, if_pos rfl]
      rw [e, if_neg (by decide)]
      rfl
    · rw [count_cons_ne b 46 l h]
      cases hc : count l [46] with
      | zero =>
        rw [hc] at ih
        have hs : splitD l = [l] := ih.symm
        rw [splitD_other h hs]; rfl
      | succ k =>
        rw [hc] at ih
        rw [splitK] at ih ⊢
        rw [index_one, if_neg h]
        by_cases e : index l [46] = -1
        · rw [if_pos e, if_pos (by decide)]
          rw [if_pos (beq_iff_eq.2 e)] at ih
          rw [splitD_other h ih.symm]
        · rw [if_neg e]
          rw [if_neg (fun q => e (beq_iff_eq.1 q))] at ih
          have hge := index_ge l [46]
          rw [splitD_other h ih.symm]
          obtain ⟨i, hi⟩ : ∃ i : Nat, index l [46] = (i : Int) := ⟨(index l [46]).toNat, by omega⟩
          rw [hi, if_neg (by rw [beq_iff_eq]; omega)]
          have e1 : ((i : Int) + 1).toNat = i + 1 := by omega
          rw [e1, Int.toNat_natCast]
          rfl
/-- the last piece goes on -/
def pushD (L : List (List UInt8)) (b : UInt8) : List (List UInt8) := if b = 46 then L ++ [[]] else L.set (L.length - 1) (L.getD (L.length - 1) [] ++ [b])
theorem splitD_snoc : ∀ (l : List UInt8) (b : UInt8), splitD (l ++ [b]) = pushD (splitD l) b
  | [], b => by
    unfold pushD
    by_cases h : b = 46
    · subst h; rfl
    · rw [if_neg h, List.nil_append, splitD_other h (l := []) (p := []) (r := []) rfl]; rfl
  | x :: l, b => by
    have ih := splitD_snoc l b
    cases hs : splitD l with
    | nil => exact absurd hs (splitD_ne l)
    | cons p r =>
      rw [hs] at ih
      by_cases hx : x = 46
      · subst hx
        rw [List.cons_append, splitD_dot, splitD_dot, ih, hs]
        unfold pushD
        by_cases h : b = 46
        · rw [if_pos h, if_pos h]; rfl
        · rw [if_neg h, if_neg h]
          simp only [List.length_cons, Nat.add_sub_cancel]
          rfl
      · rw [List.cons_append, splitD_other hx hs]
        by_cases h : b = 46
        · unfold pushD at ih ⊢
          rw [if_pos h] at ih ⊢
          rw [splitD_other hx (l := l ++ [b]) (p := p) (r := r ++ [[]]) (ih.trans rfl)]; rfl
        · unfold pushD at ih ⊢
          rw [if_neg h] at ih ⊢
          cases r with
          | nil => rw [splitD_other hx (l := l ++ [b]) (p := p ++ [b]) (r := []) ih]; rfl
          | cons q r =>
            simp only [List.length_cons, Nat.add_sub_cancel] at ih ⊢
            rw [splitD_other hx (l := l ++ [b]) (p := p) (r := (q :: r).set r.length ((q :: r).getD r.length [] ++ [b])) ih]
            rfl
/-- a name's text, and the name of a text -/
def textL (a t n : Nat) : List UInt8 := decDigits a ++ 46 :: (decDigits t ++ 46 :: decDigits n)
def parseO (l : List UInt8) : Option (Nat × Nat × Nat) := match splitD l with
  | [a, b, c] => if (numC a 2147483647).2 && (numC b 2147483647).2 && (numC c 18446744073709551615).2 then some ((numC a 2147483647).1, (numC b 2147483647).1, (numC c 18446744073709551615).1) else none
  | _ => none
theorem no_dot (u : Nat) : ∀ b ∈ decDigits u, ¬ b = 46 := fun b hb e => by
  have := (dec_ok u).2.1 b hb
  subst e
  exact absurd this (by decide)
theorem split_text (a t n : Nat) : splitD (textL a t n) = [decDigits a, decDigits t, decDigits n] := by
  unfold textL
  rw [splitD_cons (no_dot a), splitD_cons (no_dot t), splitD_one (no_dot n)]
theorem numC_dec {u m : Nat} (h : u ≤ m) : numC (decDigits u) m = (u, true) := by unfold numC; rw [num_dec]; show (if u ≤ m then _ else _) = _; rw [if_pos h]
theorem parse_text {a t n : Nat} (ha : a ≤ 2147483647) (ht : t ≤ 2147483647) (hn : n ≤ 18446744073709551615) : parseO (textL a t n) = some (a, t, n) := by
  unfold parseO
  rw [split_text]
  simp only [numC_dec ha, numC_dec ht, numC_dec hn, Bool.and_self, if_true]
theorem numC_t {l : List UInt8} {m : Nat} (h : (numC l m).2 = true) : decDigits (numC l m).1 = l ∧ (numC l m).1 ≤ m := by
  unfold numC at h ⊢
  cases hn : numO l with
  | none => rw [hn] at h; cases h
  | some v =>
    rw [hn] at h
    simp only [] at h ⊢
    by_cases hv : v ≤ m
    · rw [if_pos hv]; exact ⟨num_val hn, hv⟩
    · rw [if_neg hv] at h; cases h
theorem text_parse {l : List UInt8} {a t n : Nat} (h : parseO l = some (a, t, n)) : textL a t n = l ∧ a ≤ 2147483647 ∧ t ≤ 2147483647 ∧ n ≤ 18446744073709551615 := by
  unfold parseO at h
  split at h
  · rename_i x y z hs
    split at h
    · rename_i hc
      simp only [Bool.and_eq_true] at hc
      obtain ⟨⟨c1, c2⟩, c3⟩ := hc
      cases h
      obtain ⟨e1, l1⟩ := numC_t c1
      obtain ⟨e2, l2⟩ := numC_t c2
      obtain ⟨e3, l3⟩ := numC_t c3
      refine ⟨?_, l1, l2, l3⟩
      unfold textL
      rw [e1, e2, e3]
      have := join_split l
      rw [hs] at this
      exact this
    · cases h
  · cases h
theorem dec_inj {u v : Nat} (h : decDigits u = decDigits v) : u = v := by
  have h1 := (dec_ok u).2.2.1
  rw [h, (dec_ok v).2.2.1] at h1
  exact h1.symm
theorem text_inj {a t n a2 t2 n2 : Nat} (h : textL a t n = textL a2 t2 n2) : a = a2 ∧ t = t2 ∧ n = n2 := by
  have h1 := split_text a t n
  rw [h, split_text] at h1
  simp only [List.cons.injEq, and_true] at h1
  exact ⟨(dec_inj h1.1).symm, (dec_inj h1.2.1).symm, (dec_inj h1.2.2).symm⟩
end Go.Proofs.YtdblioggncnapaaDoor
