/-
  Sets of words as lists of spans: plain arithmetic.
-/
set_option linter.unusedVariables false
namespace Go.Proofs.Ytcemiclbeocnjaa

abbrev Sp := Int × Int
/-- a word of a span -/
def SIn (s : Sp) (w : Int) : Prop := s.1 ≤ w ∧ w < s.1 + s.2
def SHas (l : List Sp) (w : Int) : Prop := ∃ s, s ∈ l ∧ SIn s w
/-- a right list -/
def SRight (l : List Sp) : Prop := (∀ x ∈ l, 1 ≤ x.2) ∧ l.Pairwise (fun x y => x.1 + x.2 < y.1)

theorem SHas.nil (w : Int) : ¬ SHas [] w := by rintro ⟨s, h, _⟩; simp at h
theorem SHas.cons (x : Sp) (l : List Sp) (w : Int) : SHas (x :: l) w ↔ SIn x w ∨ SHas l w := by
  constructor
  · rintro ⟨s, h, k⟩
    rcases List.mem_cons.1 h with rfl | h
    · exact .inl k
    · exact .inr ⟨s, h, k⟩
  · rintro (k | ⟨s, h, k⟩)
    · exact ⟨x, by simp, k⟩
    · exact ⟨s, by simp [h], k⟩
theorem SHas.app (l m : List Sp) (w : Int) : SHas (l ++ m) w ↔ SHas l w ∨ SHas m w := by
  constructor
  · rintro ⟨s, h, k⟩
    rcases List.mem_append.1 h with h | h
    · exact .inl ⟨s, h, k⟩
    · exact .inr ⟨s, h, k⟩
  · rintro (⟨s, h, k⟩ | ⟨s, h, k⟩)
    · exact ⟨s, by simp [h], k⟩
    · exact ⟨s, by simp [h], k⟩
theorem SHas.one (x : Sp) (w : Int) : SHas [x] w ↔ SIn x w := by
  rw [SHas.cons]; constructor
  · rintro (h | h)
    · exact h
    · exact absurd h (SHas.nil w)
  · exact .inl
theorem SRight.nil : SRight [] := ⟨by simp, List.Pairwise.nil⟩
theorem SRight.cons {x : Sp} {l : List Sp} : SRight (x :: l) ↔ 1 ≤ x.2 ∧ (∀ y ∈ l, x.1 + x.2 < y.1) ∧ SRight l := by
  unfold SRight
  rw [List.pairwise_cons]
  constructor
  · rintro ⟨h, h1, h2⟩; exact ⟨h x (by simp), h1, fun y hy => h y (by simp [hy]), h2⟩
  · rintro ⟨h, h1, h3, h2⟩
    refine ⟨fun y hy => ?_, h1, h2⟩
    rcases List.mem_cons.1 hy with rfl | hy
    · exact h
    · exact h3 y hy
theorem SRight.app {l m : List Sp} : SRight (l ++ m) ↔ SRight l ∧ SRight m ∧ ∀ x ∈ l, ∀ y ∈ m, x.1 + x.2 < y.1 := by
  unfold SRight
  rw [List.pairwise_append]
  constructor
  · rintro ⟨h, h1, h2, h3⟩; exact ⟨⟨fun y hy => h y (by simp [hy]), h1⟩, ⟨fun y hy => h y (by simp [hy]), h2⟩, h3⟩
  · rintro ⟨⟨h, h1⟩, ⟨h4, h2⟩, h3⟩
    refine ⟨fun y hy => ?_, h1, h2, h3⟩
    rcases List.mem_append.1 hy with hy | hy
    · exact h y hy
    · exact h4 y hy
theorem SRight.one {x : Sp} : SRight [x] ↔ 1 ≤ x.2 := by
  rw [SRight.cons]; exact ⟨fun h => h.1, fun h => ⟨h, by simp, SRight.nil⟩⟩
theorem SRight.low {x : Sp} {l : List Sp} (h : SRight (x :: l)) {w : Int} (hw : SHas (x :: l) w) : x.1 ≤ w := by
  obtain ⟨h1, h2, h3⟩ := SRight.cons.1 h
  obtain ⟨s, hs, k⟩ := hw
  have := k.1
  rcases List.mem_cons.1 hs with rfl | hs
  · exact this
  · have := h2 s hs; omega
theorem SRight.tail {x : Sp} {l : List Sp} (h : SRight (x :: l)) {w : Int} (hw : SHas l w) : x.1 + x.2 < w := by
  obtain ⟨h1, h2, h3⟩ := SRight.cons.1 h
  obtain ⟨s, hs, k⟩ := hw
  have := h2 s hs; have := k.1; omega
/-- a right list is told by its words -/
theorem SRight.eq : ∀ {l m : List Sp}, SRight l → SRight m → (∀ w, SHas l w ↔ SHas m w) → l = m
  | [], [], _, _, _ => rfl
  | [], y :: m, _, hm, h => absurd ((h y.1).2 ⟨y, by simp, by have := (SRight.cons.1 hm).1; unfold SIn; omega⟩) (SHas.nil _)
  | x :: l, [], hl, _, h => absurd ((h x.1).1 ⟨x, by simp, by have := (SRight.cons.1 hl).1; unfold SIn; omega⟩) (SHas.nil _)
  | x :: l, y :: m, hl, hm, h => by
    have hx := (SRight.cons.1 hl).1
    have hy := (SRight.cons.1 hm).1
    have h1 := hm.low ((h x.1).1 ⟨x, by simp, by unfold SIn; omega⟩)
    have h2 := hl.low ((h y.1).2 ⟨y, by simp, by unfold SIn; omega⟩)
    have e1 : x.1 = y.1 := by omega
    have e2 : x.2 = y.2 := by
      rcases Int.lt_trichotomy x.2 y.2 with hlt | he | hgt
      · rcases (SHas.cons _ _ _).1 ((h (x.1 + x.2)).2 ⟨y, by simp, by unfold SIn; omega⟩) with k | k
        · unfold SIn at k; omega
        · have := hl.tail k; omega
      · exact he
      · rcases (SHas.cons _ _ _).1 ((h (y.1 + y.2)).1 ⟨x, by simp, by unfold SIn; omega⟩) with k | k
        · unfold SIn at k; omega
        · have := hm.tail k; omega
    have e : x = y := Prod.ext e1 e2
    subst e
    congr 1
    refine SRight.eq (SRight.cons.1 hl).2.2 (SRight.cons.1 hm).2.2 (fun w => ?_)
    constructor
    · intro k
      have := hl.tail k
      rcases (SHas.cons _ _ _).1 ((h w).1 ((SHas.cons _ _ _).2 (.inr k))) with k2 | k2
      · unfold SIn at k2; omega
      · exact k2
    · intro k
      have := hm.tail k
      rcases (SHas.cons _ _ _).1 ((h w).2 ((SHas.cons _ _ _).2 (.inr k))) with k2 | k2
      · unfold SIn at k2; omega
      · exact k2

/-- what the loop of Add carries: those below, those above, the span as it has grown -/
structure AddSt where
  b : List Sp
  a : List Sp
  s : Sp
def bothS (s x : Sp) : Sp := (min s.1 x.1, max (s.1 + s.2) (x.1 + x.2) - min s.1 x.1)
def addF (t : AddSt) (x : Sp) : AddSt :=
  if t.s.2 < 1 ∨ x.1 + x.2 < t.s.1 then { t with b := t.b ++ [x] } else if t.s.1 + t.s.2 < x.1 then { t with a := t.a ++ [x] } else { t with s := bothS t.s x }
def addAll (l : List Sp) (s : Sp) : AddSt := l.foldl addF ⟨[], [], s⟩
def addS (l : List Sp) (s : Sp) : List Sp := ((addAll l s).b ++ if (addAll l s).s.2 < 1 then [] else [(addAll l s).s]) ++ (addAll l s).a
theorem addAll_snoc (l : List Sp) (x s : Sp) : addAll (l ++ [x]) s = addF (addAll l s) x := by unfold addAll; rw [List.foldl_append]; rfl
theorem addAll_no (l : List Sp) (s : Sp) (h : s.2 < 1) : ∀ b a, l.foldl addF ⟨b, a, s⟩ = ⟨b ++ l, a, s⟩ := by
  induction l with
  | nil => intro b a; simp
  | cons x l ih =>
    intro b a
    rw [List.foldl_cons, show addF ⟨b, a, s⟩ x = ⟨b ++ [x], a, s⟩ by unfold addF; rw [if_pos (.inl h)], ih]
    simp
theorem addS_no (l : List Sp) (s : Sp) (h : s.2 < 1) : addS l s = l := by
  unfold addS addAll
  rw [addAll_no l s h]
  simp [h]
def AddInv (p : List Sp) (s : Sp) (t : AddSt) : Prop :=
  1 ≤ t.s.2 ∧ SRight (t.b ++ t.s :: t.a) ∧ (∀ w, SHas (t.b ++ t.s :: t.a) w ↔ SHas p w ∨ SIn s w) ∧ (∀ x ∈ t.b, x ∈ p) ∧ (∀ x ∈ t.a, x ∈ p)
theorem addF_inv (p : List Sp) (s x : Sp) (t : AddSt) (hr : SRight (p ++ [x])) (h : AddInv p s t) : AddInv (p ++ [x]) s (addF t x) := by
  obtain ⟨hs, hR, hH, hb, ha⟩ := h
  obtain ⟨hp, hx, hlt⟩ := SRight.app.1 hr
  have hx1 := SRight.one.1 hx
  have hltx : ∀ y ∈ p, y.1 + y.2 < x.1 := fun y hy => hlt y hy x (by simp)
  have hpp : ∀ y ∈ p, 1 ≤ y.2 := hp.1
  obtain ⟨hRb, hRsa, hRba⟩ := SRight.app.1 hR
  obtain ⟨_, hsa, hRa⟩ := SRight.cons.1 hRsa
  have hbs : ∀ y ∈ t.b, y.1 + y.2 < t.s.1 := fun y hy => hRba y hy t.s (by simp)
  unfold addF
  by_cases h1 : x.1 + x.2 < t.s.1
  · rw [if_pos (.inr h1)]
    refine ⟨hs, ?_, fun w => ?_, fun y hy => ?_, fun y hy => by simp [ha y hy]⟩
    · show SRight ((t.b ++ [x]) ++ t.s :: t.a)
      rw [List.append_assoc]
      refine SRight.app.2 ⟨hRb, ?_, fun y hy z hz => ?_⟩
      · refine SRight.cons.2 ⟨hx1, fun z hz => ?_, hRsa⟩
        rcases List.mem_cons.1 hz with rfl | hz
        · exact h1
        · have := hsa z hz; omega
      · rcases List.mem_cons.1 hz with rfl | hz
        · exact hltx y (hb y hy)
        · rcases List.mem_cons.1 hz with rfl | hz
          · exact hbs y hy
          · exact hRba y hy z (by simp [hz])
    · show SHas ((t.b ++ [x]) ++ t.s :: t.a) w ↔ _
      have := hH w
      rw [SHas.app] at this
      rw [SHas.app, SHas.app, SHas.app, SHas.one]
      constructor
      · rintro ((h | h) | h)
        · rcases this.1 (.inl h) with h | h
          · exact .inl (.inl h)
          · exact .inr h
        · exact .inl (.inr h)
        · rcases this.1 (.inr h) with h | h
          · exact .inl (.inl h)
          · exact .inr h
      · rintro ((h | h) | h)
        · rcases this.2 (.inl h) with h | h
          · exact .inl (.inl h)
          · exact .inr h
        · exact .inl (.inr h)
        · rcases this.2 (.inr h) with h | h
          · exact .inl (.inl h)
          · exact .inr h
    · have hy2 : y ∈ t.b ++ [x] := hy
      rcases List.mem_append.1 hy2 with hy | hy
      · simp [hb y hy]
      · simp at hy; simp [hy]
  · rw [if_neg (by omega)]
    by_cases h2 : t.s.1 + t.s.2 < x.1
    · rw [if_pos h2]
      refine ⟨hs, ?_, fun w => ?_, fun y hy => by simp [hb y hy], fun y hy => ?_⟩
      · show SRight (t.b ++ t.s :: (t.a ++ [x]))
        rw [← List.cons_append, ← List.append_assoc]
        refine SRight.app.2 ⟨hR, hx, fun y hy z hz => ?_⟩
        simp at hz; subst hz
        rcases List.mem_append.1 hy with hy | hy
        · exact hltx y (hb y hy)
        · rcases List.mem_cons.1 hy with rfl | hy
          · exact h2
          · exact hltx y (ha y hy)
      · show SHas (t.b ++ t.s :: (t.a ++ [x])) w ↔ _
        rw [← List.cons_append, ← List.append_assoc, SHas.app, hH w, SHas.app, SHas.one]
        constructor
        · rintro ((h | h) | h)
          · exact .inl (.inl h)
          · exact .inr h
          · exact .inl (.inr h)
        · rintro ((h | h) | h)
          · exact .inl (.inl h)
          · exact .inr h
          · exact .inl (.inr h)
      · have hy2 : y ∈ t.a ++ [x] := hy
        rcases List.mem_append.1 hy2 with hy | hy
        · simp [ha y hy]
        · simp at hy; simp [hy]
    · rw [if_neg h2]
      have hnil : t.a = [] := by
        rcases hta : t.a with _ | ⟨y, a⟩
        · rfl
        · have := hsa y (by simp [hta])
          have := hltx y (ha y (by simp [hta]))
          have := hpp y (ha y (by simp [hta]))
          omega
      have hB1 : (bothS t.s x).1 = min t.s.1 x.1 := rfl
      have hB2 : (bothS t.s x).1 + (bothS t.s x).2 = max (t.s.1 + t.s.2) (x.1 + x.2) := by unfold bothS; simp only []; omega
      refine ⟨?_, ?_, fun w => ?_, fun y hy => by simp [hb y hy], fun y hy => by simp [ha y hy]⟩
      · show 1 ≤ (bothS t.s x).2
        omega
      · show SRight (t.b ++ bothS t.s x :: t.a)
        rw [hnil]
        refine SRight.app.2 ⟨hRb, SRight.one.2 (by omega), fun y hy z hz => ?_⟩
        simp at hz; subst hz
        have := hbs y hy
        have := hltx y (hb y hy)
        omega
      · show SHas (t.b ++ bothS t.s x :: t.a) w ↔ _
        have := hH w
        rw [hnil, SHas.app, SHas.one] at this
        rw [hnil, SHas.app, SHas.one, SHas.app, SHas.one]
        have hin : SIn (bothS t.s x) w ↔ SIn t.s w ∨ SIn x w := by
          unfold SIn
          omega
        rw [hin]
        constructor
        · rintro (h | h | h)
          · rcases this.1 (.inl h) with h | h
            · exact .inl (.inl h)
            · exact .inr h
          · rcases this.1 (.inr h) with h | h
            · exact .inl (.inl h)
            · exact .inr h
          · exact .inl (.inr h)
        · rintro ((h | h) | h)
          · rcases this.2 (.inl h) with h | h
            · exact .inl h
            · exact .inr (.inl h)
          · exact .inr (.inr h)
          · rcases this.2 (.inr h) with h | h
            · exact .inl h
            · exact .inr (.inl h)
theorem addAll_inv (s : Sp) (hs : 1 ≤ s.2) : ∀ (n : Nat) (l : List Sp), l.length = n → SRight l → AddInv l s (addAll l s)
  | 0, l, hn, hl => by
    obtain rfl := List.eq_nil_of_length_eq_zero hn
    refine ⟨hs, SRight.one.2 hs, fun w => ?_, by simp [addAll], by simp [addAll]⟩
    show SHas [s] w ↔ _
    rw [SHas.one]
    exact ⟨.inr, fun h => h.elim (fun h => absurd h (SHas.nil w)) id⟩
  | n + 1, l, hn, hl => by
    have hne : l ≠ [] := by intro h; rw [h] at hn; simp at hn
    have hsp := (List.dropLast_concat_getLast hne).symm
    have hd : l.dropLast.length = n := by simp [hn]
    rw [hsp] at hl ⊢
    rw [addAll_snoc]
    exact addF_inv _ s _ _ hl (addAll_inv s hs n _ hd (SRight.app.1 hl).1)
theorem addS_right {l : List Sp} {s : Sp} (hl : SRight l) : SRight (addS l s) := by
  by_cases hs : s.2 < 1
  · rw [addS_no l s hs]; exact hl
  · have h := addAll_inv s (by omega) _ l rfl hl
    unfold addS
    rw [if_neg (by have := h.1; omega), List.append_assoc]
    exact h.2.1
theorem addS_has {l : List Sp} {s : Sp} (hl : SRight l) (w : Int) : SHas (addS l s) w ↔ SHas l w ∨ SIn s w := by
  by_cases hs : s.2 < 1
  · rw [addS_no l s hs]
    exact ⟨.inl, fun h => h.elim id (fun h => by unfold SIn at h; omega)⟩
  · have h := addAll_inv s (by omega) _ l rfl hl
    unfold addS
    rw [if_neg (by have := h.1; omega), List.append_assoc]
    exact h.2.2.1 w

/-- what of the words from f to e isn't in a list -/
def gapL (f e : Int) : List Sp := if f < e then [(f, e - f)] else []
def missL (e : Int) : Int → List Sp → List Sp
  | f, [] => gapL f e
  | f, x :: l => if e ≤ x.1 then gapL f e else gapL f x.1 ++ missL e (max f (x.1 + x.2)) l
def missS (l : List Sp) (s : Sp) : List Sp := missL (s.1 + s.2) s.1 l
theorem gap_has (f e w : Int) : SHas (gapL f e) w ↔ f ≤ w ∧ w < e := by
  unfold gapL
  split
  · rw [SHas.one]; unfold SIn; simp only []; omega
  · constructor
    · intro h; exact absurd h (SHas.nil w)
    · omega
theorem gap_right (f e : Int) : SRight (gapL f e) := by
  unfold gapL
  split
  · exact SRight.one.2 (by simp only []; omega)
  · exact SRight.nil
theorem gap_mem {f e : Int} {x : Sp} (h : x ∈ gapL f e) : x = (f, e - f) ∧ f < e := by
  unfold gapL at h
  split at h
  · simp at h; exact ⟨h, by assumption⟩
  · simp at h
theorem miss_has (e : Int) : ∀ (l : List Sp) (f w : Int), SRight l → (SHas (missL e f l) w ↔ f ≤ w ∧ w < e ∧ ¬ SHas l w)
  | [], f, w, _ => by
    unfold missL; rw [gap_has]
    exact ⟨fun h => ⟨h.1, h.2, SHas.nil w⟩, fun h => ⟨h.1, h.2.1⟩⟩
  | x :: l, f, w, h => by
    obtain ⟨hx, hl, hr⟩ := SRight.cons.1 h
    unfold missL
    split
    · rename_i he
      rw [gap_has]
      constructor
      · intro k; exact ⟨k.1, k.2, fun q => by have := h.low q; omega⟩
      · intro k; exact ⟨k.1, k.2.1⟩
    · rw [SHas.app, gap_has, miss_has e l _ w hr, SHas.cons]
      constructor
      · rintro (k | k)
        · refine ⟨k.1, by omega, ?_⟩
          rintro (q | q)
          · unfold SIn at q; omega
          · have := h.tail q; omega
        · refine ⟨by omega, k.2.1, ?_⟩
          rintro (q | q)
          · unfold SIn at q; omega
          · exact k.2.2 q
      · rintro ⟨k1, k2, k3⟩
        have k4 : ¬ SIn x w := fun q => k3 (.inl q)
        have k5 : ¬ SHas l w := fun q => k3 (.inr q)
        by_cases hw : w < x.1
        · exact .inl ⟨k1, hw⟩
        · refine .inr ⟨?_, k2, k5⟩
          unfold SIn at k4
          omega
theorem miss_right (e : Int) : ∀ (l : List Sp) (f : Int), SRight l → SRight (missL e f l) ∧ ∀ x ∈ missL e f l, f ≤ x.1
  | [], f, _ => by
    unfold missL
    exact ⟨gap_right f e, fun x hx => by rw [(gap_mem hx).1]; exact Int.le_refl f⟩
  | x :: l, f, h => by
    obtain ⟨hx, hl, hr⟩ := SRight.cons.1 h
    unfold missL
    split
    · exact ⟨gap_right f e, fun x hx => by rw [(gap_mem hx).1]; exact Int.le_refl f⟩
    · obtain ⟨i1, i2⟩ := miss_right e l (max f (x.1 + x.2)) hr
      refine ⟨SRight.app.2 ⟨gap_right f x.1, i1, fun y hy z hz => ?_⟩, fun y hy => ?_⟩
      · have := i2 z hz
        rw [(gap_mem hy).1]
        have := (gap_mem hy).2
        simp only []
        omega
      · rcases List.mem_append.1 hy with hy | hy
        · rw [(gap_mem hy).1]; exact Int.le_refl f
        · have := i2 y hy; omega
theorem missS_has {l : List Sp} {s : Sp} (hl : SRight l) (w : Int) : SHas (missS l s) w ↔ SIn s w ∧ ¬ SHas l w := by
  unfold missS SIn
  rw [miss_has _ _ _ _ hl]
  exact ⟨fun h => ⟨⟨h.1, h.2.1⟩, h.2.2⟩, fun h => ⟨h.1.1, h.1.2, h.2⟩⟩
theorem missS_right {l : List Sp} {s : Sp} (hl : SRight l) : SRight (missS l s) := (miss_right _ _ _ hl).1
theorem SRight.empty {l : List Sp} (hl : SRight l) : l = [] ↔ ∀ w, ¬ SHas l w := by
  constructor
  · rintro rfl w; exact SHas.nil w
  · intro h
    exact SRight.eq hl SRight.nil (fun w => ⟨fun k => absurd k (h w), fun k => absurd k (SHas.nil w)⟩)
/-- is all of it in the list? -/
def covS (l : List Sp) (s : Sp) : Bool := (missS l s).isEmpty
theorem covS_iff {l : List Sp} {s : Sp} (hl : SRight l) : covS l s = true ↔ ∀ w, SIn s w → SHas l w := by
  unfold covS
  rw [List.isEmpty_iff, (missS_right hl).empty]
  constructor
  · intro h w hw
    by_cases k : SHas l w
    · exact k
    · exact absurd ((missS_has hl w).2 ⟨hw, k⟩) (h w)
  · intro h w hw
    have := (missS_has hl w).1 hw
    exact this.2 (h w this.1)

/-- how many words a list has -/
def totS (l : List Sp) : Int := (l.map (·.2)).sum
theorem totS_nil : totS [] = 0 := rfl
theorem totS_cons (x : Sp) (l : List Sp) : totS (x :: l) = x.2 + totS l := by unfold totS; simp
theorem totS_app (l m : List Sp) : totS (l ++ m) = totS l + totS m := by unfold totS; simp
/-- the right list of the words that p tells, word by word -/
structure OfSt where
  l : List Sp
  o : Bool
def bump : List Sp → List Sp
  | [] => []
  | [x] => [(x.1, x.2 + 1)]
  | x :: y :: l => x :: bump (y :: l)
theorem bump_snoc (l : List Sp) (x : Sp) : bump (l ++ [x]) = l ++ [(x.1, x.2 + 1)] := by
  induction l with
  | nil => rfl
  | cons y l ih =>
    cases l with
    | nil => rfl
    | cons z l => simp only [List.cons_append, bump]; simp only [List.cons_append] at ih; rw [ih]
def ofF (p : Int → Bool) (t : OfSt) (w : Int) : OfSt := ⟨if p w then (if t.o then bump t.l else t.l ++ [(w, 1)]) else t.l, p w⟩
def ofN (p : Int → Bool) (low : Int) : Nat → OfSt
  | 0 => ⟨[], false⟩
  | n + 1 => ofF p (ofN p low n) (low + n)
def OfInv (p : Int → Bool) (low : Int) (n : Nat) (t : OfSt) : Prop :=
  SRight t.l ∧ (∀ v, SHas t.l v ↔ low ≤ v ∧ v < low + n ∧ p v = true) ∧ (t.o = true → ∃ o x, t.l = o ++ [x] ∧ x.1 + x.2 = low + n) ∧ (t.o = false → ∀ x ∈ t.l, x.1 + x.2 < low + n) ∧ ∀ x ∈ t.l, low ≤ x.1
theorem ofN_inv (p : Int → Bool) (low : Int) : ∀ n : Nat, OfInv p low n (ofN p low n)
  | 0 => ⟨SRight.nil, fun v => ⟨fun h => absurd h (SHas.nil v), fun h => by omega⟩, fun h => by simp [ofN] at h, fun _ => by simp [ofN], by simp [ofN]⟩
  | n + 1 => by
    obtain ⟨hr, hh, ho, hc, hlo⟩ := ofN_inv p low n
    show OfInv p low (n + 1) (ofF p (ofN p low n) (low + n))
    generalize ofN p low n = t at *
    unfold ofF
    cases hp : p (low + n) with
    | false =>
      simp only [Bool.false_eq_true, if_false]
      refine ⟨hr, fun v => ?_, fun h => by simp at h, fun _ x hx => ?_, hlo⟩
      · show SHas t.l v ↔ _
        rw [hh v]
        constructor
        · rintro ⟨a, b, c⟩; exact ⟨a, by omega, c⟩
        · rintro ⟨a, b, c⟩
          refine ⟨a, ?_, c⟩
          by_cases e : v = low + n
          · subst e; rw [hp] at c; simp at c
          · omega
      · have hx2 : x ∈ t.l := hx
        cases hto : t.o with
        | false => have := hc hto x hx2; omega
        | true =>
          obtain ⟨o, y, e, hy⟩ := ho hto
          rw [e] at hx2 hr
          rcases List.mem_append.1 hx2 with h | h
          · have := (SRight.app.1 hr).2.2 x h y (by simp)
            have := (SRight.one.1 (SRight.app.1 hr).2.1)
            omega
          · simp at h; subst h; omega
    | true =>
      simp only [if_true]
      cases hto : t.o with
      | false =>
        simp only [Bool.false_eq_true, if_false]
        refine ⟨?_, fun v => ?_, fun _ => ⟨t.l, (low + n, 1), rfl, by simp only []; omega⟩, fun h => by simp at h, fun x hx => ?_⟩
        · show SRight (t.l ++ [(low + (n : Int), 1)])
          refine SRight.app.2 ⟨hr, SRight.one.2 (by simp), fun x hx y hy => ?_⟩
          simp at hy; subst hy
          have := hc hto x hx
          simp only []; omega
        · show SHas (t.l ++ [(low + (n : Int), 1)]) v ↔ _
          rw [SHas.app, SHas.one, hh v]
          unfold SIn
          simp only []
          constructor
          · rintro (⟨a, b, c⟩ | ⟨a, b⟩)
            · exact ⟨a, by omega, c⟩
            · obtain rfl : v = low + n := by omega
              exact ⟨by omega, by omega, hp⟩
          · rintro ⟨a, b, c⟩
            by_cases e : v = low + n
            · exact .inr (by omega)
            · exact .inl ⟨a, by omega, c⟩
        · have hx2 : x ∈ t.l ++ [(low + (n : Int), 1)] := hx
          rcases List.mem_append.1 hx2 with h | h
          · exact hlo x h
          · simp at h; subst h; simp only []; omega
      | true =>
        simp only [if_true]
        obtain ⟨o, y, e, hy⟩ := ho hto
        rw [e] at hr hh hlo
        rw [e, bump_snoc]
        obtain ⟨r1, r2, r3⟩ := SRight.app.1 hr
        have hy1 := SRight.one.1 r2
        refine ⟨?_, fun v => ?_, fun _ => ⟨o, _, rfl, by simp only []; omega⟩, fun h => by simp at h, fun x hx => ?_⟩
        · refine SRight.app.2 ⟨r1, SRight.one.2 (by simp only []; omega), fun x hx z hz => ?_⟩
          simp at hz; subst hz
          have := r3 x hx y (by simp)
          exact this
        · show SHas (o ++ [(y.1, y.2 + 1)]) v ↔ _
          have := hh v
          rw [SHas.app, SHas.one] at this
          rw [SHas.app, SHas.one]
          unfold SIn at *
          simp only []
          constructor
          · rintro (h | ⟨a, b⟩)
            · obtain ⟨a, b, c⟩ := this.1 (.inl h)
              exact ⟨a, by omega, c⟩
            · by_cases e : v = low + n
              · subst e
                have := hlo y (by simp)
                exact ⟨by omega, by omega, hp⟩
              · obtain ⟨a, b, c⟩ := this.1 (.inr (by omega))
                exact ⟨a, by omega, c⟩
          · rintro ⟨a, b, c⟩
            by_cases e : v = low + n
            · exact .inr (by omega)
            · rcases this.2 ⟨a, by omega, c⟩ with h | h
              · exact .inl h
              · exact .inr (by omega)
        · have hx2 : x ∈ o ++ [(y.1, y.2 + 1)] := hx
          rcases List.mem_append.1 hx2 with h | h
          · exact hlo x (by simp [h])
          · simp at h; subst h; exact hlo y (by simp)

/-- how many of n words from lo on p tells -/
def cntP (p : Int → Bool) (lo : Int) : Nat → Int
  | 0 => 0
  | n + 1 => cntP p lo n + if p (lo + n) then 1 else 0
theorem cntP_or (p q r : Int → Bool) (lo : Int) (h : ∀ w, r w = (p w || q w)) (hd : ∀ w, ¬ (p w = true ∧ q w = true)) : ∀ n, cntP r lo n = cntP p lo n + cntP q lo n
  | 0 => rfl
  | n + 1 => by
    simp only [cntP]
    rw [cntP_or p q r lo h hd n, h]
    have := hd (lo + n)
    cases hp : p (lo + n) <;> cases hq : q (lo + n) <;> simp_all <;> omega
theorem cntP_in (s : Sp) (lo : Int) (h : lo ≤ s.1) (h1 : 0 ≤ s.2) : ∀ n : Nat, cntP (fun w => decide (s.1 ≤ w) && decide (w < s.1 + s.2)) lo n = max 0 (min (lo + n) (s.1 + s.2) - s.1)
  | 0 => by simp only [cntP]; omega
  | n + 1 => by
    simp only [cntP]
    rw [cntP_in s lo h h1 n]
    by_cases a : s.1 ≤ lo + n <;> by_cases b : lo + n < s.1 + s.2 <;> simp [a, b] <;> omega
def hasB (l : List Sp) (w : Int) : Bool := l.any (fun s => decide (s.1 ≤ w) && decide (w < s.1 + s.2))
theorem hasB_iff (l : List Sp) (w : Int) : hasB l w = true ↔ SHas l w := by
  unfold hasB SHas SIn
  rw [List.any_eq_true]
  constructor
  · rintro ⟨s, h, k⟩; exact ⟨s, h, by simpa using k⟩
  · rintro ⟨s, h, k⟩; exact ⟨s, h, by simpa using k⟩
theorem cntP_zero (p : Int → Bool) (lo : Int) (h : ∀ w, p w = false) : ∀ n, cntP p lo n = 0
  | 0 => rfl
  | n + 1 => by simp only [cntP]; rw [cntP_zero p lo h n, h]; rfl
theorem tot_cnt (lo : Int) (n : Nat) : ∀ l : List Sp, SRight l → (∀ x ∈ l, lo ≤ x.1 ∧ x.1 + x.2 ≤ lo + n) → totS l = cntP (hasB l) lo n
  | [], _, _ => by rw [cntP_zero (hasB []) _ (fun w => rfl)]; rfl
  | x :: l, h, hb => by
    obtain ⟨hx, hl, hr⟩ := SRight.cons.1 h
    have hbx := hb x (by simp)
    rw [totS_cons, tot_cnt lo n l hr (fun y hy => hb y (by simp [hy])), cntP_or (fun w => decide (x.1 ≤ w) && decide (w < x.1 + x.2)) (hasB l) (hasB (x :: l)) lo (fun w => by unfold hasB; rw [List.any_cons]) (fun w hw => by
      have h2 := (hasB_iff l w).1 hw.2
      have := h.tail h2
      have h1 := hw.1
      simp at h1
      omega), cntP_in x lo hbx.1 (by omega)]
    omega
theorem cntP_congr (p q : Int → Bool) (lo : Int) (h : ∀ w, p w = q w) (n : Nat) : cntP p lo n = cntP q lo n := by
  rw [show p = q from funext h]
/-- where m has just the words of l and k, and no word is in both, it has as many as they -/
theorem tot_or {l k m : List Sp} (hl : SRight l) (hk : SRight k) (hm : SRight m) (h : ∀ w, SHas m w ↔ SHas l w ∨ SHas k w) (hd : ∀ w, SHas l w → ¬ SHas k w) (lo : Int) (n : Nat)
    (bl : ∀ x ∈ l, lo ≤ x.1 ∧ x.1 + x.2 ≤ lo + n) (bk : ∀ x ∈ k, lo ≤ x.1 ∧ x.1 + x.2 ≤ lo + n) (bm : ∀ x ∈ m, lo ≤ x.1 ∧ x.1 + x.2 ≤ lo + n) : totS m = totS l + totS k := by
  rw [tot_cnt lo n l hl bl, tot_cnt lo n k hk bk, tot_cnt lo n m hm bm]
  refine cntP_or _ _ _ _ (fun w => ?_) (fun w hw => hd w ((hasB_iff l w).1 hw.1) ((hasB_iff k w).1 hw.2)) n
  rw [Bool.eq_iff_iff, Bool.or_eq_true, hasB_iff, hasB_iff, hasB_iff]
  exact h w
end Go.Proofs.Ytcemiclbeocnjaa
