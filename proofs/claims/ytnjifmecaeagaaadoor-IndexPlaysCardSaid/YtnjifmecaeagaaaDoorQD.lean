/-
  Package index, mathematics: what the iterators tell.
  Package index: a chunk's word.
  Package index: Table.
  Package index: the first of what an iterator tells.
  Package index: its iterator of rows.
  Package index: its iterator of runs.
  Package index: the first row, the first run.
  Package index: takeHuge.
-/
import Derived.Test.YtnjifmecaeagaaaDoorQN
import Derived.Test.YtnjifmecaeagaaaDoorQP
import Derived.Scope
section
set_option linter.unusedVariables false
set_option linter.unusedSimpArgs false
namespace Go.Proofs.YtnjifmecaeagaaaDoor
/-- the runs of a class that have room, among the first j chunks -/
def runsTo (S : List St) (c j : Nat) : List Nat := (List.range j).filter fun i => runAt c (gS S i)
theorem runsTo_step (S : List St) (c j : Nat) : runsTo S c (j + 1) = runsTo S c j ++ (if runAt c (gS S j) then [j] else []) := by
  unfold runsTo
  rw [List.range_succ, List.filter_append]
  congr 1
  rw [List.filter_cons, List.filter_nil]
theorem head_filter {p : Nat → Bool} {n i : Nat} (h : ((List.range n).filter p).head? = some i) : i < n ∧ p i = true ∧ ∀ k, k < i → p k = false := by
  rw [List.head?_filter] at h
  have h1 := List.mem_of_find?_eq_some h
  have h2 := List.find?_some h
  refine ⟨List.mem_range.1 h1, h2, fun k hk => ?_⟩
  cases hp : p k with
  | false => rfl
  | true =>
    have hi := List.mem_range.1 h1
    obtain ⟨_, l1, l2, he, hn⟩ := List.find?_eq_some_iff_append.1 h
    have hl : l1.length = i := by
      have h4 : (List.range n)[l1.length]? = some i := by rw [he]; simp
      rw [List.getElem?_eq_some_iff] at h4
      obtain ⟨q1, q2⟩ := h4
      simpa using q2
    have hka : l1[k]? = some k := by
      have h4 : (List.range n)[k]? = some k := List.getElem?_range (by omega)
      rw [he, List.getElem?_append_left (by omega)] at h4
      exact h4
    have hm := List.mem_of_getElem? hka
    have := hn k hm
    rw [hp] at this
    simp at this
theorem none_filter {p : Nat → Bool} {n : Nat} (h : ((List.range n).filter p).head? = none) : ∀ k, k < n → p k = false := fun k hk => by
  rw [List.head?_filter] at h
  have := List.find?_eq_none.1 h k (List.mem_range.2 hk)
  simpa using this
/-- how many chunks in a row, up to the j-th, can be had -/
def cntR (S : List St) : Nat → Nat
  | 0 => 0
  | j + 1 => if hadS (gS S j) then cntR S j + 1 else 0
theorem cntR_le (S : List St) : ∀ j, cntR S j ≤ j
  | 0 => Nat.le_refl _
  | j + 1 => by have := cntR_le S j; unfold cntR; split <;> omega
theorem cntR_ge (S : List St) : ∀ j m, m ≤ cntR S j ↔ m ≤ j ∧ ∀ k, k < m → hadS (gS S (j - m + k)) = true
  | 0, m => by
    unfold cntR
    constructor
    · intro h; exact ⟨h, fun k hk => by omega⟩
    · intro h; exact h.1
  | j + 1, 0 => by simp
  | j + 1, m + 1 => by
    unfold cntR
    have ih := cntR_ge S j m
    rw [show j + 1 - (m + 1) = j - m by omega]
    by_cases hh : hadS (gS S j) = true
    · rw [if_pos hh]
      constructor
      · intro h
        obtain ⟨h1, h2⟩ := ih.1 (by omega)
        refine ⟨by omega, fun k hk => ?_⟩
        by_cases e : k = m
        · subst e; rw [show j - k + k = j by omega]; exact hh
        · exact h2 k (by omega)
      · rintro ⟨h1, h2⟩
        have := ih.2 ⟨by omega, fun k hk => h2 k (by omega)⟩
        omega
    · rw [if_neg hh]
      constructor
      · intro h; omega
      · rintro ⟨h1, h2⟩
        have := h2 m (by omega)
        rw [show j - m + m = j by omega] at this
        exact absurd this hh
/-- the chunks with which m in a row begin that can be had, among the first j -/
def rowsTo (S : List St) (m j : Nat) : List Nat := ((List.range j).filter fun i => decide (m ≤ cntR S (i + 1))).map fun i => i + 1 - m
theorem rowsTo_step (S : List St) (m j : Nat) : rowsTo S m (j + 1) = rowsTo S m j ++ (if m ≤ cntR S (j + 1) then [j + 1 - m] else []) := by
  unfold rowsTo
  rw [List.range_succ, List.filter_append, List.map_append]
  congr 1
  by_cases h : m ≤ cntR S (j + 1)
  · simp [h]
  · simp [h]
theorem rows_head {S : List St} {m a : Nat} (hm : 1 ≤ m) (h : (rowsTo S m S.length).head? = some a) : rowHere S m a ∧ ∀ k, k < a → ¬ rowHere S m k := by
  unfold rowsTo at h
  rw [List.head?_map] at h
  obtain ⟨i, hi, rfl⟩ := Option.map_eq_some_iff.1 h
  obtain ⟨h1, h2, h3⟩ := head_filter hi
  obtain ⟨h4, h5⟩ := (cntR_ge S (i + 1) m).1 (of_decide_eq_true h2)
  refine ⟨⟨by omega, fun k hk => h5 k hk⟩, fun k hk hr => ?_⟩
  have := of_decide_eq_false (h3 (k + m - 1) (by omega))
  refine this ((cntR_ge S _ m).2 ⟨by omega, fun q hq => ?_⟩)
  rw [show k + m - 1 + 1 - m + q = k + q by omega]
  exact hr.2 q hq
theorem rows_none {S : List St} {m : Nat} (hm : 1 ≤ m) (h : (rowsTo S m S.length).head? = none) : ∀ k, ¬ rowHere S m k := fun k hr => by
  unfold rowsTo at h
  rw [List.head?_map, Option.map_eq_none_iff] at h
  have hl := hr.1
  have := of_decide_eq_false (none_filter h (k + m - 1) (by omega))
  refine this ((cntR_ge S _ m).2 ⟨by omega, fun q hq => ?_⟩)
  rw [show k + m - 1 + 1 - m + q = k + q by omega]
  exact hr.2 q hq
/-- the room of a run, as the lowest block that is free -/
theorem room_first0 : ∀ c : Nat, c < 3 → ∀ b : Nat, b < 256 → roomI (c : Nat) b = match firstOff b (mnN c) with | some j => (j : Int) | none => -1 := by decide +kernel
theorem room_some {s : St} {j : Nat} (k1 : kN s.1 = 1) (hc : cN s.1 < 3) (hb : s.2.1 ||| s.2.2 < 256) (h : firstOff (s.2.1 ||| s.2.2) (mnN (cN s.1)) = some j) : roomS s = (j : Int) := by
  unfold roomS
  rw [if_pos k1, room_first0 _ hc _ hb, h]
theorem room_none {s : St} (k1 : kN s.1 = 1) (hc : cN s.1 < 3) (hb : s.2.1 ||| s.2.2 < 256) (h : firstOff (s.2.1 ||| s.2.2) (mnN (cN s.1)) = none) : roomS s = -1 := by
  unfold roomS
  rw [if_pos k1, room_first0 _ hc _ hb, h]
/-- a run has room: as the code asks -/
theorem room_ask {s : St} (k1 : kN s.1 = 1) (hc : cN s.1 < 3) (hb : s.2.1 ||| s.2.2 < 256) : (firstOff (s.2.1 ||| s.2.2) (mnN (cN s.1))).isSome = decide (0 ≤ roomS s) := by
  cases h : firstOff (s.2.1 ||| s.2.2) (mnN (cN s.1)) with
  | none => rw [room_none k1 hc hb h]; rfl
  | some j => rw [room_some k1 hc hb h]; simp
end Go.Proofs.YtnjifmecaeagaaaDoor
end
section
set_option linter.unusedVariables false
set_option linter.unusedSimpArgs false
namespace Go.Proofs.YtnjifmecaeagaaaDoor
open Go.RowKit Go.ChangeShapes Go.WideShapes Go.Deep

theorem parts_word {s : St} (h : StOk s) : kN (wordS s) = kN s.1 ∧ cN (wordS s) = cN s.1 ∧ lnN (wordS s) = lnN s.1 ∧ mN (wordS s) = mN s.1 ∧ bN (wordS s) = bW s.1 s.2.1 := by
  unfold wordS bW
  by_cases k1 : kN s.1 = 1
  · have h1 := (h.run k1).1
    have hp := pow_mn (cN s.1)
    rw [if_pos k1, if_pos k1]
    refine ⟨?_, ?_, ?_, ?_, ?_⟩
    · unfold kN; omega
    · unfold cN; omega
    · unfold lnN; omega
    · unfold mN; omega
    · unfold bN; omega
  · rw [if_neg k1, if_neg k1]
    exact ⟨rfl, rfl, rfl, rfl, rfl⟩
/-- a chunk's word, of what is live -/
theorem encS_any (x lv tk : Nat) (h : StOk (x, lv, tk)) (w : World) (hw : Lw w) :
    Calls Tryd.prog 83 #[.agg #[.int .i64 (kN x : Nat), .int .i64 (cN x : Nat), .int .i64 (lnN x : Nat), .int .i64 (mN x : Nat), .int .u64 (bW x lv : Nat)]] w fun e w' => e = .returned (.tuple #[.int .u64 (wordS (x, lv, tk) : Nat), .int .i64 0]) ∧ Below w.heap.size w w' := by
  obtain ⟨p1, p2, p3, p4, p5⟩ := parts_word h
  have hok := word_ok h
  have hwo := word_of _ hok
  rw [p1, p2, p3, p4, p5] at hwo
  have hr := (rightN_B _).1 (okN_t hok)
  rw [p1, p2, p3, p4, p5] at hr
  have he := enc_yes (kN x : Nat) (cN x : Nat) (lnN x : Nat) (mN x : Nat) (bW x lv : Nat) w hw (by omega) (right_yes hr.2)
  rw [hwo] at he
  exact he
end Go.Proofs.YtnjifmecaeagaaaDoor
end
section
set_option linter.unusedVariables false
set_option linter.unusedSimpArgs false
namespace Go.Proofs.YtnjifmecaeagaaaDoor
open Go.Lib Go.RowKit Go.ChangeShapes Go.WideShapes Go.Deep

/-- the words of the first j chunks, zeros behind -/
def tabW (S : List St) (j : Nat) : List Nat := (List.range S.length).map fun i => if i < j then wordS (gS S i) else 0
theorem tabW_len (S : List St) (j : Nat) : (tabW S j).length = S.length := by simp [tabW]
theorem tabW_zero (S : List St) : tabW S 0 = List.replicate S.length 0 := by
  apply List.ext_getElem?
  intro i
  simp only [tabW, List.getElem?_map, List.getElem?_replicate]
  by_cases h : i < S.length
  · rw [if_pos h, List.getElem?_range h]; simp
  · rw [if_neg h, List.getElem?_eq_none (by simpa using h)]; rfl
theorem tabW_set (S : List St) (j : Nat) : (tabW S j).set j (wordS (gS S j)) = tabW S (j + 1) := by
  apply List.ext_getElem?
  intro i
  rw [List.getElem?_set]
  by_cases h : i < S.length
  · have hr : (List.range S.length)[i]? = some i := List.getElem?_range h
    by_cases e : j = i
    · subst e
      rw [if_pos rfl, if_pos (by rw [tabW_len]; exact h)]
      simp only [tabW, List.getElem?_map, hr, Option.map_some]
      rw [if_pos (by omega)]
    · rw [if_neg e]
      simp only [tabW, List.getElem?_map, hr, Option.map_some]
      by_cases q : i < j
      · rw [if_pos q, if_pos (by omega)]
      · rw [if_neg q, if_neg (by omega)]
  · have h1 : (tabW S j)[i]? = none := List.getElem?_eq_none (by rw [tabW_len]; omega)
    have h2 : (tabW S (j + 1))[i]? = none := List.getElem?_eq_none (by rw [tabW_len]; omega)
    rw [h1, h2]
    split
    · rw [if_neg (by rw [tabW_len]; omega)]
    · rfl
theorem wpList_clear_run {P : Program} {w w' : World} {ops : Array Oper} {rest : List Oper} {o : Oper} {a : Act} {Q : Exit → Act → World → Prop} (hg : o.guard = none) (s : Operand) (t : TypeId)
    (hop : o.op = Op.call { callee := Callee.builtin Builtin.clear, args := #[s], argTypes := #[t] }) (vs v : Value) (hs : a.eval s = vs)
    (hrun : (Builtin.clear_ #[t] o.type #[vs]).run P w = .ok v w') (h : wpList P ops Q rest (a.put o.dst v) w') : wpList P ops Q (o :: rest) a w := by
  refine wpList_plain hg fun K hK => ?_
  refine wp_clear_run s t hop vs v hs hrun ?_
  exact hK _ _ h

theorem OwnU.put {w : World} {base g n cap : Nat} {l : List Nat} (h : OwnU w base (.slice (some ⟨g, 0, none⟩) n cap) l) (hn : l.length = n) (j y : Nat) : OwnU (w.setCell ⟨g, j, none⟩ (.int .u64 (y : Nat))) base (.slice (some ⟨g, 0, none⟩) n cap) (l.set j y) := by
  unfold OwnU at h ⊢
  rw [hn] at h
  rw [List.length_set, hn, List.map_set]
  exact (World.ownsRow.stored h j _).1
theorem OwnU.at {w : World} {base g n cap : Nat} {l : List Nat} (h : OwnU w base (.slice (some ⟨g, 0, none⟩) n cap) l) (hn : l.length = n) {j : Nat} (hj : j < n) : w.cell? ⟨g, j, none⟩ = some (.int .u64 (l.getD j 0 : Nat)) ∧ w.frozen? ⟨g, j, none⟩ = false := by
  unfold OwnU at h
  rw [hn] at h
  refine ⟨?_, h.frozenAt _⟩
  rw [World.ownsRow.cellAt h j (by omega), List.getElem?_map, List.getElem?_eq_getElem (by omega)]
  simp [List.getD_eq_getElem?_getD, List.getElem?_eq_getElem (show j < l.length by omega)]
theorem info_w : (Tryd.prog.info? 27).map (fun i => (i.zero, i.size, i.bytes)) = some (some (.int .u64 0), 1, 8) := by kernel_rfl
/-- the words, with the chunks of the first k gone ones cleared -/
def goneK (S : List St) (k i : Nat) : Bool := (List.range k).any fun m => decide (m ≤ i ∧ kN (gS S m).1 = 2 ∧ ¬ (gS S m).2.2 = 0 ∧ i < m + mN (gS S m).1)
theorem goneK_iff (S : List St) (k i : Nat) : goneK S k i = true ↔ ∃ m, m < k ∧ m ≤ i ∧ kN (gS S m).1 = 2 ∧ ¬ (gS S m).2.2 = 0 ∧ i < m + mN (gS S m).1 := by
  unfold goneK
  rw [List.any_eq_true]
  constructor
  · rintro ⟨m, h1, h2⟩; exact ⟨m, List.mem_range.1 h1, of_decide_eq_true h2⟩
  · rintro ⟨m, h1, h2⟩; exact ⟨m, List.mem_range.2 h1, decide_eq_true h2⟩
def tabK (S : List St) (k : Nat) : List Nat := (List.range S.length).map fun i => if goneK S k i then 0 else wordS (gS S i)
theorem tabK_len (S : List St) (k : Nat) : (tabK S k).length = S.length := by simp [tabK]
theorem tabK_at (S : List St) (k i : Nat) (h : i < S.length) : (tabK S k)[i]? = some (if goneK S k i then 0 else wordS (gS S i)) := by
  have hr : (List.range S.length)[i]? = some i := List.getElem?_range h
  simp only [tabK, List.getElem?_map, hr, Option.map_some]
theorem tabK_zero (S : List St) : tabW S S.length = tabK S 0 := by
  refine List.map_congr_left fun i hi => ?_
  rw [if_pos (List.mem_range.1 hi), show goneK S 0 i = false from rfl]; rfl
theorem tabK_all (S : List St) : tabK S S.length = tableS S := by
  refine List.map_congr_left fun i hi => ?_
  have hi := List.mem_range.1 hi
  have : goneK S S.length i = goneB S i := by
    rw [Bool.eq_iff_iff, goneK_iff, goneB_iff]
    constructor
    · rintro ⟨m, _, h2, h3, h4, h5⟩; exact ⟨m, h2, h3, h4, h5⟩
    · rintro ⟨m, h2, h3, h4, h5⟩; exact ⟨m, by omega, h2, h3, h4, h5⟩
  rw [this]
theorem tabK_same (S : List St) (k : Nat) (h : ¬ (kN (gS S k).1 = 2 ∧ ¬ (gS S k).2.2 = 0)) : tabK S (k + 1) = tabK S k := by
  refine List.map_congr_left fun i hi => ?_
  have : goneK S (k + 1) i = goneK S k i := by
    rw [Bool.eq_iff_iff, goneK_iff, goneK_iff]
    constructor
    · rintro ⟨m, h1, h2, h3, h4, h5⟩
      by_cases e : m = k
      · subst e; exact absurd ⟨h3, h4⟩ h
      · exact ⟨m, by omega, h2, h3, h4, h5⟩
    · rintro ⟨m, h1, h2⟩; exact ⟨m, by omega, h2⟩
  rw [this]
theorem tabK_more (S : List St) (k : Nat) (h1 : kN (gS S k).1 = 2) (h2 : ¬ (gS S k).2.2 = 0) (h3 : k + mN (gS S k).1 ≤ S.length) :
    setL ((tabK S k).map fun y : Nat => Value.int .u64 y) k (List.replicate (mN (gS S k).1) (Value.int .u64 0)) = (tabK S (k + 1)).map fun y : Nat => Value.int .u64 y := by
  apply List.ext_getElem?
  intro i
  rw [setL_at _ _ _ _ (by rw [List.length_replicate, List.length_map, tabK_len]; exact h3), List.length_replicate, show ((tabK S (k + 1)).map fun y : Nat => Value.int .u64 y)[i]? = ((tabK S (k + 1))[i]?).map fun y : Nat => Value.int .u64 y from List.getElem?_map ..]
  by_cases hi : i < S.length
  · rw [tabK_at S (k + 1) i hi]
    by_cases q : k ≤ i ∧ i < k + mN (gS S k).1
    · rw [if_pos q, List.getElem?_replicate, if_pos (by omega), if_pos ((goneK_iff _ _ _).2 ⟨k, by omega, q.1, h1, h2, q.2⟩)]; rfl
    · rw [if_neg q, List.getElem?_map, tabK_at S k i hi]
      have : goneK S (k + 1) i = goneK S k i := by
        rw [Bool.eq_iff_iff, goneK_iff, goneK_iff]
        constructor
        · rintro ⟨m, a1, a2, a3, a4, a5⟩
          by_cases e : m = k
          · subst e; exact absurd ⟨a2, a5⟩ q
          · exact ⟨m, by omega, a2, a3, a4, a5⟩
        · rintro ⟨m, a1, a2⟩; exact ⟨m, by omega, a2⟩
      rw [this]
  · rw [List.getElem?_eq_none (show (tabK S (k + 1)).length ≤ i by rw [tabK_len]; omega), if_neg (by omega), List.getElem?_eq_none (by rw [List.length_map, tabK_len]; omega)]; rfl
/-- words of an own row are cleared -/
theorem clear_words {w : World} {base g n cap : Nat} {l : List Nat} (h : OwnU w base (.slice (some ⟨g, 0, none⟩) n cap) l) (hn : l.length = n) (i m c : Nat) (hm : 0 < m) (him : i + m ≤ n) (ty : TypeId) {l2 : List Nat}
    (hl2 : setL (l.map fun y : Nat => Value.int .u64 y) i (List.replicate m (Value.int .u64 0)) = l2.map fun y : Nat => Value.int .u64 y) (hn2 : l2.length = n) :
    ∃ w', (Builtin.clear_ #[22] ty #[.slice (some ⟨g, i, none⟩) m c]).run Tryd.prog w = .ok (.tuple #[]) w' ∧ OwnU w' base (.slice (some ⟨g, 0, none⟩) n cap) l2 ∧ Chg (fun b => b = g) w w' := by
  have h' := h
  unfold OwnU at h'
  rw [hn] at h'
  obtain ⟨k1, k2⟩ := stored_list (List.replicate m (Value.int .u64 0)) (l.map fun y : Nat => Value.int .u64 y) i w h'
  obtain ⟨i0, hi, hz, _⟩ := info_parts info_w
  have hv : ∀ w, (zeroValue 27).run Tryd.prog w = .ok (.int .u64 0) w := zv_run hi hz
  refine ⟨_, run_clear_slice w 22 27 ty (.int .u64 0) Tryd.underlying22 hv rfl rfl g i m c hm (fun j hj => ?_) (fun j hj => ?_), ?_, k2⟩
  · rw [(h.at hn (j := i + j) (by omega)).1]; rfl
  · exact (h.at hn (j := i + j) (by omega)).2
  · unfold OwnU
    rw [hn2, ← hl2]
    exact k1
def TabP (w : World) (S : List St) (e : Ending) (w' : World) : Prop := ∃ v', e = .returned v' ∧ OwnU w' w.heap.size v' (tableS S)
set_option maxRecDepth 10000 in
set_option maxHeartbeats 1000000 in
theorem table_any {w : World} {base B : Nat} {v : Value} {S : List St} (hI : IxAt w base B v S) (hS : SOk S) (hl : S.length ≤ 10000) (hw : Lw w) :
    Calls Tryd.prog 52 #[.pointer (some ⟨B, 0, none⟩)] w fun e w' => TabP w S e w' ∧ Below w.heap.size w w' := by
  obtain ⟨i0, hi, hz0, hz1, hz2⟩ := info_parts info_w
  have xB := hI.box.cell
  obtain ⟨nn, hnn⟩ : ∃ n, S.length = n := ⟨_, rfl⟩
  obtain ⟨A, cap, rfl, hD⟩ := SKL.form (hI.row.el eS_len) hnn
  have hn9 : nn ≤ 10000 := by omega
  have hSe := Lib.hid (fun j (hj : j < nn) => hS.each j (by omega))
  have hT0 := Lib.hid (tabW_zero S)
  have hTs := Lib.hid (fun j => tabW_set S j)
  have hTl := Lib.hid (fun j => (tabW_len S j).trans hnn)
  have hKl := Lib.hid (fun k => (tabK_len S k).trans hnn)
  have hKs := Lib.hid (fun k => tabK_same S k)
  have hKm := Lib.hid (fun k (hk : k < nn) (h1 : kN (gS S k).1 = 2) (h2 : ¬ (gS S k).2.2 = 0) => show 0 < mN (gS S k).1 ∧ k + mN (gS S k).1 ≤ nn ∧ setL ((tabK S k).map fun y : Nat => Value.int .u64 y) k (List.replicate (mN (gS S k).1) (Value.int .u64 0)) = (tabK S (k + 1)).map fun y : Nat => Value.int .u64 y from by
    obtain ⟨q1, q2⟩ := huge_many hS (i := k) (by omega) h1
    exact ⟨by omega, by omega, tabK_more S k h1 h2 q2⟩)
  have hKI := Lib.hid (fun w1 (hb : Below w.heap.size w w1) => (hI.keep hb).box.cell)
  rw [hnn] at hT0
  replace hnn := Lib.hid hnn
  replace hD := Lib.hid hD
  replace hw := Lib.hid hw
  clear hI hl
  go_enter Tryd.func52, Tryd.ntmps52
  go_wp2_with (at_make; refine wpList_make_full _ rfl _ _ 22 rfl w.heap.size 27 i0 (.int .u64 0) 1 Tryd.underlying22 hi hz0 hz1 .i64 .i64 _ _ nn rfl rfl rfl rfl (by rw [hz2]; omega) (by unfold maxLen; omega) (Nat.le_refl _) ?_; intro w1 hown hgr; have hB1 : Below w.heap.size w w1 := (Below.refl _ _).grown hgr (Nat.le_refl _) (by simp); have xB1 := hKI.out _ hB1; replace hown := Lib.hid hown; replace hgr := Lib.hid hgr)
  have hO1 : OwnU w1 w.heap.size (.slice (some ⟨w.heap.size, 0, none⟩) nn nn) (tabW S 0) := by
    unfold OwnU
    rw [hTl.out, hT0.out, List.map_replicate]
    have hown := hown.out
    rw [show (madeCells (Value.int IntKind.u64 0).cells (nn * 1)).toList = List.replicate nn (Value.int .u64 0) by rw [Nat.mul_one]; exact toList_madeCells_one _ _] at hown
    exact hown
  clear hown hgr xB xB1
  obtain ⟨O, hO⟩ : ∃ O, w.heap.size = O := ⟨_, rfl⟩
  rw [hO] at hO1 hB1 ⊢
  go_loopw [19] (fun i wr => ∃ (j : Nat), j ≤ nn ∧ i = .int .i64 j ∧ OwnU wr O (.slice (some ⟨O, 0, none⟩) nn nn) (tabW S j) ∧ Below O w wr) (fun i _ => nn + 1 - (intOf i).toNat)
  case atStart => exact ⟨0, Nat.zero_le _, rfl, hO1, hB1⟩
  case round =>
    obtain ⟨j, hj, rfl, hOr, hBr⟩ := hrel
    by_cases hlt : j < nn
    · have hlt' : (j : Int) < (nn : Int) := by omega
      have hBr' : Below w.heap.size w wr := by rw [hO]; exact hBr
      obtain ⟨g, off, rfl, hcap, hg0, hg, x0, x1, x2, x3, x4, x5, x6⟩ := hD.out wr j hBr' hlt
      have hsj := hSe.out j hlt
      have hset := hTs.out j
      generalize gS S j = s at *
      obtain ⟨x, lv, tk⟩ := s
      simp only [] at x0 x1 x2 x3 x4 x5 x6
      have hA3 : Below wr.heap.size wr (wr.alloc (.cells #[.int .i64 (kN x : Nat), .int .i64 (cN x : Nat), .int .i64 (lnN x : Nat), .int .i64 (mN x : Nat), .int .u64 (bN x : Nat), .int .u64 (lv : Nat), .int .u64 (tk : Nat)] 99)) := (Below.refl _ _).alloc (Nat.le_refl _) _
      have hWt := with_any x lv tk lv (wr.alloc (.cells #[.int .i64 (kN x : Nat), .int .i64 (cN x : Nat), .int .i64 (lnN x : Nat), .int .i64 (mN x : Nat), .int .u64 (bN x : Nat), .int .u64 (lv : Nat), .int .u64 (tk : Nat)] 99))
      have hEn := fun w1 (h1 : Below w.heap.size w w1) => encS_any x lv tk hsj w1 (hw.out.keep h1)
      have hB3 := hBr'.trans (hA3.mono hBr'.size)
      replace hsj := Lib.hid hsj
      replace hEn := Lib.hid hEn
      replace hset := Lib.hid hset
      generalize hws : wordS (x, lv, tk) = wd at *
      clear hws
      go_wp2_with fail
      refine hWt.mono ?_
      rintro e w4 ⟨rfl, hb4⟩
      have hB4 := hB3.trans (hb4.mono hB3.size)
      have hE4 := hEn.out w4 hB4
      clear hWt
      go_wp2_with fail
      refine hE4.mono ?_
      rintro e w5 ⟨rfl, hb5⟩
      have hO5 := ((hOr.keep hA3).keep hb4).keep hb5
      have hB5 := hB4.trans (hb5.mono hB4.size)
      obtain ⟨q1, q2⟩ := hO5.at (hTl.out j) hlt
      have hput := hO5.put (hTl.out j) j wd
      rw [hset.out] at hput
      clear hE4 hb4 hb5
      go_wp2_with fail
      have hBn : Below O w (w5.setCell ⟨O, j, none⟩ (.int .u64 (wd : Nat))) := by
        rw [hO] at hB5
        have hc : Chg (fun k => k = O) w5 (w5.setCell ⟨O, j, none⟩ (.int .u64 (wd : Nat))) := Chg.setCell (S := fun k => k = O) w5 O j _ rfl
        exact hB5.trans (hc.below (fun k q => by omega) (by have := hB5.size; omega))
      go_roundw
      case rel => exact ⟨j + 1, by omega, by go_num, hput, hBn⟩
      case measure => first | (simp [intOf]; done) | (simp [intOf]; omega)
    · obtain rfl : j = nn := by omega
      clear hlt
      have hBr' : Below w.heap.size w wr := by rw [hO]; exact hBr
      have xBr := hKI.out _ hBr'
      rw [show tabW S j = tabK S 0 from by rw [← hnn.out]; exact tabK_zero S] at hOr
      go_wp2_with fail
      go_loopw [41] (fun i wr => ∃ (k : Nat), k ≤ j ∧ i = .int .i64 k ∧ OwnU wr O (.slice (some ⟨O, 0, none⟩) j j) (tabK S k) ∧ Below O w wr) (fun i _ => j + 1 - (intOf i).toNat)
      case atStart => exact ⟨0, Nat.zero_le _, rfl, hOr, hBr⟩
      case round =>
        obtain ⟨k, hk, rfl, hO2, hB2⟩ := hrel
        by_cases hlt : k < j
        · have hlt' : (k : Int) < (j : Int) := by omega
          have hB2' : Below w.heap.size w wr := by rw [hO]; exact hB2
          obtain ⟨g, off, rfl, hcap, hg0, hg, x0, x1, x2, x3, x4, x5, x6⟩ := hD.out wr k hB2' hlt
          have hsame := hKs.out k
          have hmore := hKm.out k hlt
          generalize gS S k = s at *
          obtain ⟨x, lv, tk⟩ := s
          simp only [] at x0 x1 x2 x3 x4 x5 x6 hsame hmore
          have hA3 : Below wr.heap.size wr (wr.alloc (.cells #[.int .i64 (kN x : Nat), .int .i64 (cN x : Nat), .int .i64 (lnN x : Nat), .int .i64 (mN x : Nat), .int .u64 (bN x : Nat), .int .u64 (lv : Nat), .int .u64 (tk : Nat)] 99)) := (Below.refl _ _).alloc (Nat.le_refl _) _
          have hB3 : Below O w (wr.alloc (.cells #[.int .i64 (kN x : Nat), .int .i64 (cN x : Nat), .int .i64 (lnN x : Nat), .int .i64 (mN x : Nat), .int .u64 (bN x : Nat), .int .u64 (lv : Nat), .int .u64 (tk : Nat)] 99)) := by rw [← hO]; exact hB2'.trans (hA3.mono hB2'.size)
          have hO3 := hO2.keep hA3
          by_cases k2 : kN x = 2
          · have t5 : (((kN x : Nat) : Int) == 2) = true := by rw [beq_iff_eq]; omega
            by_cases z0 : tk = 0
            · have t6 : (((tk : Nat) : Int) != 0) = false := by rw [bne_eq_false_iff_eq]; omega
              rw [← hsame (fun q => q.2 z0)] at hO3
              clear hsame hmore z0 k2
              go_wp2_with fail
              go_roundw
              case rel => exact ⟨k + 1, by omega, by go_num, hO3, hB3⟩
              case measure => first | (simp [intOf]; done) | (simp [intOf]; omega)
            · have t6 : (((tk : Nat) : Int) != 0) = true := by rw [bne_iff_ne]; omega
              obtain ⟨m1, m2, hset⟩ := hmore k2 z0
              obtain ⟨w6, hrun, hO6, hC6⟩ := clear_words hO3 (hKl.out k) k (mN x) (j - k) m1 m2 0 hset (hKl.out (k + 1))
              obtain ⟨e, he⟩ : ∃ e, e = k + mN x := ⟨_, rfl⟩
              have hmx := (parts_bd x).2.2.2.1
              have t7 : IntKind.i64.wrap (((k : Nat) : Int) + ((mN x : Nat) : Int)) = ((e : Nat) : Int) := by rw [IntKind.wrap_i64]; omega
              have e1 : e ≤ j := by omega
              have e2 : k ≤ e := by omega
              have e3 : ¬ j = k := by omega
              have e4 : e - k = mN x := by omega
              have hB6 : Below O w w6 := hB3.trans (hC6.below (fun q h => by omega) (by have := hB3.size; have := hO3.lt O rfl; omega))
              replace he := Lib.hid he
              clear hsame hmore z0 k2 hset
              go_wp2_with (at_builtin; refine wpList_clear_run rfl _ _ rfl _ _ rfl hrun ?_)
              go_roundw
              case rel => exact ⟨k + 1, by omega, by go_num, hO6, hB6⟩
              case measure => first | (simp [intOf]; done) | (simp [intOf]; omega)
          · have t5 : (((kN x : Nat) : Int) == 2) = false := by rw [beq_eq_false_iff_ne]; omega
            rw [← hsame (fun q => k2 q.1)] at hO3
            clear hsame hmore k2
            go_wp2_with fail
            go_roundw
            case rel => exact ⟨k + 1, by omega, by go_num, hO3, hB3⟩
            case measure => first | (simp [intOf]; done) | (simp [intOf]; omega)
        · obtain rfl : k = j := by omega
          clear hlt
          rw [show tabK S k = tableS S from by rw [← hnn.out]; exact tabK_all S] at hO2
          go_wp2_with fail
          go_ret
          exact ⟨⟨_, rfl, by rw [hO]; exact hO2⟩, by rw [hO]; exact hB2⟩
end Go.Proofs.YtnjifmecaeagaaaDoor
end
section
set_option linter.unusedVariables false
set_option linter.unusedSimpArgs false
namespace Go.Proofs.YtnjifmecaeagaaaDoor
open Go.RowKit Go.ChangeShapes Go.WideShapes Go.Deep Go.Shelf
attribute [local go_sem] Oper.semAt_some
set_option maxRecDepth 100000 in
set_option maxHeartbeats 2000000 in
theorem first_in (n : Nat) (hn : 3 ≤ n) {gf : Nat} {lb : Array Value} (hFg : Fence.wide.fn gf) (eg : ∀ args w, (callFunc gf args).run Tryd.prog w = .ok (.enter gf args) w) (L : List Nat) (w : World)
    (hseq : SeqStopsK Fence.wide (n - 1) Tryd.prog gf lb (fun y : Nat => #[Value.int .i64 y]) (Below w.heap.size) (fun ys => ys = L) (fun pre => pre <+: L) L.length w) :
    CallsIn Fence.wide n Tryd.prog 81 #[.func (.func gf) #[] lb] w fun e W' => e = .returned (.int .i64 (headI L)) ∧ Below w.heap.size w W' := by
  have hn1 : 1 ≤ n := by omega
  refine callsIn_of_wp_marks Tryd.func81 rfl trivial ?_ rfl
  simp only [Tryd.ntmps81, List.size_toArray, List.length_cons, List.length_nil, Nat.reduceAdd, Nat.reduceSub, Array.replicate_succ, Array.replicate_zero, List.push_toArray, List.append_toArray, List.nil_append, List.cons_append]
  gi_wp2
  refine wpIn_wide.2 (wp_scope_straight ((wpIn_wide (n := n)).1 ?_))
  gi_wp2
  refine wpIn_label ?_
  gi_wp2
  have hs := cell_new w (.int .i64 (-1)) 3
  have hB0 : Below w.heap.size w (w.alloc (.cells #[.int .i64 (-1)] 3)) := (Below.refl _ w).alloc (Nat.le_refl _) _
  refine wpIn_rangeFunc_ownF rfl hn1 (gf := gf) (lb := lb) rfl hFg eg
    hseq belowK_t (belowK_b (by simp)) hB0 (fun _ => rfl)
    (fun pre W => (pre = [] ∧ W.cell? ⟨w.heap.size, 0, none⟩ = some (.int .i64 (-1)) ∧ W.frozen? ⟨w.heap.size, 0, none⟩ = false) ∧ Below w.heap.size w W)
    (fun c pre W => (c = .exit 0 ∧ ∃ y : Nat, pre = [y] ∧ W.cell? ⟨w.heap.size, 0, none⟩ = some (.int .i64 (y : Int))) ∧ Below w.heap.size w W)
    (OwnFrom.and (Own.from (fun s A B row hs hg hr => ⟨hs.1, cell_kept hs.2.1 hg hr, (frozen_kept hs.2.1 hg hr).trans hs.2.2⟩) _) (ownFrom_below (Nat.le_refl _) (by simp)))
    (fun c => OwnFrom.and (Own.from (fun s A B row hs hg hr => ⟨hs.1, by obtain ⟨y, e, hc⟩ := hs.2; exact ⟨y, e, cell_kept hc hg hr⟩⟩) _) (ownFrom_below (Nat.le_refl _) (by simp)))
    ⟨⟨rfl, hs.1, hs.2⟩, hB0⟩
    (fun y => { tmps := #[.func (.func gf) #[] lb, undef, .int .i64 0, .pointer (some ⟨w.heap.size, 0, none⟩), .int .i64 y, .func (.func gf) #[] lb, .int .i64 y, undef, undef], defers := [] }) ?assign ?body ?done ?stop
  case assign =>
    intro l y W K hK
    gi_wp2
    simpa using hK
  case body =>
    rintro l pre y W ⟨⟨rfl, hc, hf⟩, hB⟩ hlt
    gi_wp2
    exact ⟨KeepsOthers.setCell _ _ _, ⟨rfl, y, rfl, World.cell?_setCell_same' _ _ _ (by rw [hc]; rfl)⟩, hB.setCell (p := ⟨w.heap.size, 0, none⟩) (by simp) _⟩
  case done =>
    rintro D ys W hD hys ⟨⟨rfl, hcr, hfr⟩, hB⟩ hK
    have Hys := Lib.hid hys
    clear hys
    gi_wp2
    rw [Exit.noGoto_ret]
    gi_wp2
    refine ⟨by simp, .inl ⟨_, _, rfl, run_takeDeferred hK, ?_⟩⟩
    exact ⟨_, results_tmp rfl _ _ _, by rw [← Hys.out]; rfl, hB.trans (belowK_b (w := w) (Nat.le_refl _) W D _ _ (by simp at hD; omega) hK rfl rfl)⟩
  case stop =>
    rintro D c pre W hD hpre ⟨⟨rfl, y, rfl, hcr⟩, hB⟩ hK
    gi_wp2
    rw [Exit.noGoto_ret]
    gi_wp2
    refine ⟨by simp, .inl ⟨_, _, rfl, run_takeDeferred hK, ?_⟩⟩
    exact ⟨_, results_tmp rfl _ _ _, by obtain ⟨q, hq⟩ := hpre; rw [← hq]; rfl, hB.trans (belowK_b (w := w) (Nat.le_refl _) W D _ _ (by simp at hD; omega) hK rfl rfl)⟩
theorem first_any {gf : Nat} {lb : Array Value} (hFg : Fence.wide.fn gf) (eg : ∀ args w, (callFunc gf args).run Tryd.prog w = .ok (.enter gf args) w) (L : List Nat) (w : World)
    (hseq : SeqStopsK Fence.wide 2 Tryd.prog gf lb (fun y : Nat => #[Value.int .i64 y]) (Below w.heap.size) (fun ys => ys = L) (fun pre => pre <+: L) L.length w) :
    Calls Tryd.prog 81 #[.func (.func gf) #[] lb] w fun e W' => e = .returned (.int .i64 (headI L)) ∧ Below w.heap.size w W' :=
  callsIn_wide.1 (first_in 3 (by omega) hFg eg L w hseq)
end Go.Proofs.YtnjifmecaeagaaaDoor
end
section
set_option linter.unusedVariables false
set_option linter.unusedSimpArgs false
namespace Go.Proofs.YtnjifmecaeagaaaDoor
open Go.RowKit Go.ChangeShapes Go.WideShapes Go.Deep Go.Shelf
attribute [local go_sem] Oper.semAt_some
theorem rowsTo_pre (S : List St) (m i : Nat) : ∀ d, rowsTo S m i <+: rowsTo S m (i + d)
  | 0 => List.prefix_rfl
  | d + 1 => (rowsTo_pre S m i d).trans (by rw [← Nat.add_assoc, rowsTo_step]; exact List.prefix_append _ _)
theorem st_bd {s : St} (h : StOk s) : s.2.1 < 256 ∧ s.2.2 < 256 := by
  have hp := pow_mn (cN s.1)
  by_cases k1 : kN s.1 = 1
  · have := h.run k1; omega
  · by_cases k2 : kN s.1 = 2
    · have := h.huge k2; omega
    · have := h.none k1 k2; omega
set_option maxRecDepth 100000 in
set_option maxHeartbeats 2000000 in
theorem rows1_in (n : Nat) (hn : 1 ≤ n) (l Bx Bm B n₀ : Nat) (v : Value) (S : List St) (m : Nat) (hm : 1 ≤ m) (hm2 : m ≤ 8191) (hS : SOk S) (hl : S.length ≤ 10000) (J Jx : List Nat → World → Prop)
    (hJ : ∀ pre W1 W2, J pre W1 → Below W1.heap.size W1 W2 → J pre W2)
    (hY : ∀ pre (y : Nat) W, J pre W → pre.length < (rowsTo S m S.length).length → YieldAt Fence.wide (n - 1) Tryd.prog l #[.int .i64 (y : Int)] W fun e W' =>
      (e = .returned (.bool true) ∧ J (pre ++ [y]) W' ∧ Below n₀ W W') ∨ (e = .returned (.bool false) ∧ Jx (pre ++ [y]) W'))
    (W : World) (hn₀ : n₀ ≤ W.heap.size) (hBx : W.cell? ⟨Bx, 0, none⟩ = some (.pointer (some ⟨B, 0, none⟩))) (hBm : ∀ w1, Below n₀ W w1 → w1.cell? ⟨Bm, 0, none⟩ = some (.int .i64 (m : Nat)))
    (hIx : W.cell? ⟨B, 0, none⟩ = some v) (hEL : ∀ w1, Below n₀ W w1 → EL 7 eS w1 v S) (h0 : J [] W) :
    CallsIn Fence.wide n Tryd.prog 99 #[.func (.yield l) #[] #[], .pointer (some ⟨Bx, 0, none⟩), .pointer (some ⟨Bm, 0, none⟩)] W fun e W' => (∃ v, e = .returned v) ∧
      ((∃ ys, ys = rowsTo S m S.length ∧ J ys W') ∨ (∃ pre, pre <+: rowsTo S m S.length ∧ Jx pre W')) := by
  obtain ⟨N, hN⟩ : ∃ N, S.length = N := ⟨_, rfl⟩
  obtain ⟨A, cap, rfl, _⟩ := SKL.form (hEL W (Below.refl _ _)) hN
  have hF := Lib.hid (fun w1 (hb : Below n₀ W w1) (i : Nat) (hi : i < N) => show ∃ g off, A = some ⟨g, off, none⟩ ∧ N ≤ cap ∧ w1.cell? ⟨g, off + i * 7, none⟩ = some (.int .i64 (kN (gS S i).1 : Nat)) ∧ w1.cell? ⟨g, off + i * 7 + 1, none⟩ = some (.int .i64 (cN (gS S i).1 : Nat)) ∧ w1.cell? ⟨g, off + i * 7 + 2, none⟩ = some (.int .i64 (lnN (gS S i).1 : Nat)) ∧ w1.cell? ⟨g, off + i * 7 + 3, none⟩ = some (.int .i64 (mN (gS S i).1 : Nat)) ∧ w1.cell? ⟨g, off + i * 7 + 4, none⟩ = some (.int .u64 (bN (gS S i).1 : Nat)) ∧ w1.cell? ⟨g, off + i * 7 + 5, none⟩ = some (.int .u64 ((gS S i).2.1 : Nat)) ∧ w1.cell? ⟨g, off + i * 7 + 6, none⟩ = some (.int .u64 ((gS S i).2.2 : Nat)) from by
    obtain ⟨A2, cap2, he, h⟩ := SKL.form (hEL w1 hb) hN
    simp only [Value.slice.injEq, true_and] at he
    obtain ⟨rfl, rfl⟩ := he
    obtain ⟨g, off, a1, a2, _, _, a3⟩ := h w1 i (Below.refl _ _) hi
    exact ⟨g, off, a1, a2, a3⟩)
  have hBd := Lib.hid (fun j (hj : j < N) => st_bd (hS.each j (by omega)))
  have hPre := Lib.hid (fun j (hj : j ≤ N) => show rowsTo S m j <+: rowsTo S m N from by have := rowsTo_pre S m j (N - j); rw [show j + (N - j) = N by omega] at this; exact this)
  have hStp := Lib.hid (fun j => rowsTo_step S m j)
  have hCnt := Lib.hid (fun j => show cntR S (j + 1) = if hadS (gS S j) then cntR S j + 1 else 0 from rfl)
  have hCle := Lib.hid (fun j => cntR_le S j)
  have hR0 := Lib.hid (show rowsTo S m 0 = [] from rfl)
  have hC0 := Lib.hid (show cntR S 0 = 0 from rfl)
  rw [hN] at hY hl ⊢
  have hBmF := Lib.hid hBm
  replace hY := Lib.hid hY
  replace hJ := Lib.hid hJ
  clear hBm hEL hS
  replace hN := Lib.hid hN
  refine callsIn_of_wp Tryd.func99 rfl trivial ?_ rfl
  simp only [Tryd.ntmps99, List.size_toArray, List.length_cons, List.length_nil, Nat.reduceAdd, Nat.reduceSub, Array.replicate_succ, Array.replicate_zero, List.push_toArray, List.append_toArray, List.nil_append, List.cons_append]
  gi_wp2
  gi_loopw [4, 12] (fun r i wr => ∃ (j : Nat), j ≤ N ∧ i = .int .i64 j ∧ r = .int .i64 (cntR S j : Nat) ∧ J (rowsTo S m j) wr ∧ Below n₀ W wr) (fun _ i _ => N + 1 - (intOf i).toNat)
  case atStart => exact ⟨0, Nat.zero_le _, rfl, by rw [hC0.out]; rfl, by rw [hR0.out]; exact h0, Below.refl _ _⟩
  case round =>
    obtain ⟨j, hj, rfl, rfl, hJr, hBr⟩ := hrel
    clear h0 hBx hIx
    by_cases hlt : j < N
    · have hlt' : (j : Int) < (N : Int) := by omega
      obtain ⟨g, off, rfl, hcap, x0, x1, x2, x3, x4, x5, x6⟩ := hF.out wr hBr j hlt
      have hbd := hBd.out j hlt
      have hp := hPre.out (j + 1) (by omega)
      have hp0 := hStp.out j
      have hc := hCnt.out j
      have hcl := hCle.out j
      generalize gS S j = s at *
      obtain ⟨x, lv, tk⟩ := s
      simp only [] at x0 x1 x2 x3 x4 x5 x6 hbd
      have hA3 : Below wr.heap.size wr (wr.alloc (.cells #[.int .i64 (kN x : Nat), .int .i64 (cN x : Nat), .int .i64 (lnN x : Nat), .int .i64 (mN x : Nat), .int .u64 (bN x : Nat), .int .u64 (lv : Nat), .int .u64 (tk : Nat)] 99)) := (Below.refl _ _).alloc (Nat.le_refl _) _
      have hH := hadS_any x lv tk (wr.alloc (.cells #[.int .i64 (kN x : Nat), .int .i64 (cN x : Nat), .int .i64 (lnN x : Nat), .int .i64 (mN x : Nat), .int .u64 (bN x : Nat), .int .u64 (lv : Nat), .int .u64 (tk : Nat)] 99)) hbd.1 hbd.2
      have hJ3 := hJ.out _ _ _ hJr hA3
      have hB3 : Below n₀ W (wr.alloc (.cells #[.int .i64 (kN x : Nat), .int .i64 (cN x : Nat), .int .i64 (lnN x : Nat), .int .i64 (mN x : Nat), .int .u64 (bN x : Nat), .int .u64 (lv : Nat), .int .u64 (tk : Nat)] 99)) := hBr.trans (hA3.mono (Nat.le_trans hn₀ hBr.size))
      generalize cntR S j = q at *
      clear hbd hA3
      cases hh : hadS (x, lv, tk) with
      | false =>
        rw [hh] at hH hc
        rw [if_neg (by simp)] at hc
        rw [hc, if_neg (by omega), List.append_nil] at hp0
        have d1 : decide ((m : Int) ≤ 0) = false := decide_eq_false (by omega)
        have d2 : decide (m ≤ 0) = false := decide_eq_false (by omega)
        clear hh
        replace hc := Lib.hid hc
        replace hp0 := Lib.hid hp0
        replace hp := Lib.hid hp
        gi_wp2
        refine ⟨trivial, (callsIn_wide.2 hH).mono ?_⟩
        rintro e w4 ⟨rfl, hb4⟩
        have hB4 := hB3.trans (hb4.mono (Nat.le_trans hn₀ hB3.size))
        have hJ4 := hJ.out _ _ _ hJ3 hb4
        have bm := hBmF.out w4 hB4
        clear hH hJ3
        gi_wp2
        refine ⟨fun f hf => (by cases hf), ?_⟩
        gi_wp2
        go_roundw
        case rel => exact ⟨j + 1, by omega, by go_num, by rw [hc.out]; rfl, by rw [hp0.out]; exact hJ4, hB4⟩
        case measure => first | (simp [intOf]; done) | (simp [intOf]; omega)
      | true =>
        rw [hh] at hH hc
        rw [if_pos rfl] at hc
        clear hh
        by_cases hmq : m ≤ q + 1
        · rw [hc, if_pos hmq] at hp0
          have hlen : (rowsTo S m j).length < (rowsTo S m N).length := by
            have := hp.length_le
            rw [hp0, List.length_append, List.length_singleton] at this
            omega
          obtain ⟨a, ha⟩ : ∃ a, a = j + 1 - m := ⟨_, rfl⟩
          rw [← ha] at hp0
          have d1 : decide ((m : Int) ≤ (q : Int) + 1) = true := decide_eq_true (by omega)
          have t0 : IntKind.i64.wrap ((q : Int) + 1) = (q : Int) + 1 := by rw [IntKind.wrap_i64]; omega
          have t1 : IntKind.i64.wrap ((j : Int) - (m : Int)) = (j : Int) - (m : Int) := by rw [IntKind.wrap_i64]; omega
          have t2 : IntKind.i64.wrap ((j : Int) - (m : Int) + 1) = (a : Int) := by rw [IntKind.wrap_i64]; omega
          replace hc := Lib.hid hc
          replace hp0 := Lib.hid hp0
          replace hp := Lib.hid hp
          replace ha := Lib.hid ha
          replace hlen := Lib.hid hlen
          gi_wp2
          refine ⟨trivial, (callsIn_wide.2 hH).mono ?_⟩
          rintro e w4 ⟨rfl, hb4⟩
          have hB4 := hB3.trans (hb4.mono (Nat.le_trans hn₀ hB3.size))
          have hJ4 := hJ.out _ _ _ hJ3 hb4
          have bm := hBmF.out w4 hB4
          clear hH hJ3
          obtain ⟨fn, tmps, assign, body, hy, hR⟩ := hY.out (rowsTo S m j) a w4 hJ4 hlen.out
          gi_wp2
          refine hR.mono ?_
          rintro e W5 (⟨rfl, hJ5, hk5⟩ | ⟨rfl, hJx5⟩)
          · gi_wp2
            go_roundw
            case rel => exact ⟨j + 1, by omega, by go_num, by rw [hc.out]; rfl, by rw [hp0.out]; exact hJ5, hB4.trans hk5⟩
            case measure => first | (simp [intOf]; done) | (simp [intOf]; omega)
          · gi_wp2
            refine bodyPost_ret (results_none rfl _ _ _) rfl ?_
            exact ⟨⟨_, rfl⟩, .inr ⟨rowsTo S m j ++ [a], by rw [← hp0.out]; exact hp.out, hJx5⟩⟩
        · rw [hc, if_neg hmq, List.append_nil] at hp0
          have d1 : decide ((m : Int) ≤ (q : Int) + 1) = false := decide_eq_false (by omega)
          have t0 : IntKind.i64.wrap ((q : Int) + 1) = (q : Int) + 1 := by rw [IntKind.wrap_i64]; omega
          replace hc := Lib.hid hc
          replace hp0 := Lib.hid hp0
          replace hp := Lib.hid hp
          gi_wp2
          refine ⟨trivial, (callsIn_wide.2 hH).mono ?_⟩
          rintro e w4 ⟨rfl, hb4⟩
          have hB4 := hB3.trans (hb4.mono (Nat.le_trans hn₀ hB3.size))
          have hJ4 := hJ.out _ _ _ hJ3 hb4
          have bm := hBmF.out w4 hB4
          clear hH hJ3
          gi_wp2
          refine ⟨fun f hf => (by cases hf), ?_⟩
          gi_wp2
          go_roundw
          case rel => exact ⟨j + 1, by omega, by go_num, by rw [hc.out]; rfl, by rw [hp0.out]; exact hJ4, hB4⟩
          case measure => first | (simp [intOf]; done) | (simp [intOf]; omega)
    · obtain rfl : j = N := by omega
      gi_wp2
      go_end0
      exact ⟨⟨_, rfl⟩, .inl ⟨_, rfl, hJr⟩⟩
end Go.Proofs.YtnjifmecaeagaaaDoor
end
section
set_option linter.unusedVariables false
set_option linter.unusedSimpArgs false
namespace Go.Proofs.YtnjifmecaeagaaaDoor
open Go.RowKit Go.ChangeShapes Go.WideShapes Go.Deep Go.Shelf
attribute [local go_sem] Oper.semAt_some
theorem runsTo_pre (S : List St) (c i : Nat) : ∀ d, runsTo S c i <+: runsTo S c (i + d)
  | 0 => List.prefix_rfl
  | d + 1 => (runsTo_pre S c i d).trans (by rw [← Nat.add_assoc, runsTo_step]; exact List.prefix_append _ _)
set_option maxRecDepth 100000 in
set_option maxHeartbeats 2000000 in
theorem runs1_in (n : Nat) (hn : 1 ≤ n) (l Bx Bm B n₀ : Nat) (v : Value) (S : List St) (m : Nat) (hm : m < 3) (hS : SOk S) (hl : S.length ≤ 10000) (J Jx : List Nat → World → Prop)
    (hJ : ∀ pre W1 W2, J pre W1 → Below W1.heap.size W1 W2 → J pre W2)
    (hY : ∀ pre (y : Nat) W, J pre W → pre.length < (runsTo S m S.length).length → YieldAt Fence.wide (n - 1) Tryd.prog l #[.int .i64 (y : Int)] W fun e W' =>
      (e = .returned (.bool true) ∧ J (pre ++ [y]) W' ∧ Below n₀ W W') ∨ (e = .returned (.bool false) ∧ Jx (pre ++ [y]) W'))
    (W : World) (hn₀ : n₀ ≤ W.heap.size) (hBx : W.cell? ⟨Bx, 0, none⟩ = some (.pointer (some ⟨B, 0, none⟩))) (hBm : ∀ w1, Below n₀ W w1 → w1.cell? ⟨Bm, 0, none⟩ = some (.int .i64 (m : Nat)))
    (hIx : W.cell? ⟨B, 0, none⟩ = some v) (hEL : ∀ w1, Below n₀ W w1 → EL 7 eS w1 v S) (hLw : ∀ w1, Below n₀ W w1 → Lw w1) (h0 : J [] W) :
    CallsIn Fence.wide n Tryd.prog 106 #[.func (.yield l) #[] #[], .pointer (some ⟨Bx, 0, none⟩), .pointer (some ⟨Bm, 0, none⟩)] W fun e W' => (∃ v, e = .returned v) ∧
      ((∃ ys, ys = runsTo S m S.length ∧ J ys W') ∨ (∃ pre, pre <+: runsTo S m S.length ∧ Jx pre W')) := by
  obtain ⟨N, hN⟩ : ∃ N, S.length = N := ⟨_, rfl⟩
  obtain ⟨A, cap, rfl, _⟩ := SKL.form (hEL W (Below.refl _ _)) hN
  have hF := Lib.hid (fun w1 (hb : Below n₀ W w1) (i : Nat) (hi : i < N) => show ∃ g off, A = some ⟨g, off, none⟩ ∧ N ≤ cap ∧ w1.cell? ⟨g, off + i * 7, none⟩ = some (.int .i64 (kN (gS S i).1 : Nat)) ∧ w1.cell? ⟨g, off + i * 7 + 1, none⟩ = some (.int .i64 (cN (gS S i).1 : Nat)) ∧ w1.cell? ⟨g, off + i * 7 + 2, none⟩ = some (.int .i64 (lnN (gS S i).1 : Nat)) ∧ w1.cell? ⟨g, off + i * 7 + 3, none⟩ = some (.int .i64 (mN (gS S i).1 : Nat)) ∧ w1.cell? ⟨g, off + i * 7 + 4, none⟩ = some (.int .u64 (bN (gS S i).1 : Nat)) ∧ w1.cell? ⟨g, off + i * 7 + 5, none⟩ = some (.int .u64 ((gS S i).2.1 : Nat)) ∧ w1.cell? ⟨g, off + i * 7 + 6, none⟩ = some (.int .u64 ((gS S i).2.2 : Nat)) from by
    obtain ⟨A2, cap2, he, h⟩ := SKL.form (hEL w1 hb) hN
    simp only [Value.slice.injEq, true_and] at he
    obtain ⟨rfl, rfl⟩ := he
    obtain ⟨g, off, a1, a2, _, _, a3⟩ := h w1 i (Below.refl _ _) hi
    exact ⟨g, off, a1, a2, a3⟩)
  have hBd := Lib.hid (fun j (hj : j < N) => st_bd (hS.each j (by omega)))
  have hPre := Lib.hid (fun j (hj : j ≤ N) => show runsTo S m j <+: runsTo S m N from by have := runsTo_pre S m j (N - j); rw [show j + (N - j) = N by omega] at this; exact this)
  have hStp := Lib.hid (fun j => runsTo_step S m j)
  have hR0 := Lib.hid (show runsTo S m 0 = [] from rfl)
  replace hLw := Lib.hid hLw
  rw [hN] at hY hl ⊢
  have hBmF := Lib.hid hBm
  replace hY := Lib.hid hY
  replace hJ := Lib.hid hJ
  clear hBm hEL hS
  replace hN := Lib.hid hN
  refine callsIn_of_wp Tryd.func106 rfl trivial ?_ rfl
  simp only [Tryd.ntmps106, List.size_toArray, List.length_cons, List.length_nil, Nat.reduceAdd, Nat.reduceSub, Array.replicate_succ, Array.replicate_zero, List.push_toArray, List.append_toArray, List.nil_append, List.cons_append]
  gi_wp2
  gi_loopw [11] (fun i wr => ∃ (j : Nat), j ≤ N ∧ i = .int .i64 j ∧ J (runsTo S m j) wr ∧ Below n₀ W wr) (fun i _ => N + 1 - (intOf i).toNat)
  case atStart => exact ⟨0, Nat.zero_le _, rfl, by rw [hR0.out]; exact h0, Below.refl _ _⟩
  case round =>
    obtain ⟨j, hj, rfl, hJr, hBr⟩ := hrel
    clear h0 hBx hIx
    by_cases hlt : j < N
    · have hlt' : (j : Int) < (N : Int) := by omega
      obtain ⟨g, off, rfl, hcap, x0, x1, x2, x3, x4, x5, x6⟩ := hF.out wr hBr j hlt
      have hbd := hBd.out j hlt
      have hp := hPre.out (j + 1) (by omega)
      have hp0 := hStp.out j
      generalize gS S j = s at *
      obtain ⟨x, lv, tk⟩ := s
      simp only [] at x0 x1 x2 x3 x4 x5 x6 hbd
      have hA3 : Below wr.heap.size wr (wr.alloc (.cells #[.int .i64 (kN x : Nat), .int .i64 (cN x : Nat), .int .i64 (lnN x : Nat), .int .i64 (mN x : Nat), .int .u64 (bN x : Nat), .int .u64 (lv : Nat), .int .u64 (tk : Nat)] 99)) := (Below.refl _ _).alloc (Nat.le_refl _) _
      have hJ3 := hJ.out _ _ _ hJr hA3
      have hB3 : Below n₀ W (wr.alloc (.cells #[.int .i64 (kN x : Nat), .int .i64 (cN x : Nat), .int .i64 (lnN x : Nat), .int .i64 (mN x : Nat), .int .u64 (bN x : Nat), .int .u64 (lv : Nat), .int .u64 (tk : Nat)] 99)) := hBr.trans (hA3.mono (Nat.le_trans hn₀ hBr.size))
      have bm := hBmF.out _ hB3
      have hRm := roomS_any x lv tk (wr.alloc (.cells #[.int .i64 (kN x : Nat), .int .i64 (cN x : Nat), .int .i64 (lnN x : Nat), .int .i64 (mN x : Nat), .int .u64 (bN x : Nat), .int .u64 (lv : Nat), .int .u64 (tk : Nat)] 99)) (hLw.out _ hB3) hbd.1 hbd.2
      have hob := or_bd hbd.1 hbd.2
      clear hbd
      by_cases k1 : kN x = 1
      · have t1 : (((kN x : Nat) : Int) == 1) = true := by rw [beq_iff_eq]; omega
        by_cases c1 : cN x = m
        · have t2 : (((cN x : Nat) : Int) == (m : Int)) = true := by rw [beq_iff_eq]; omega
          have hra : runAt m (x, lv, tk) = decide (0 ≤ roomS (x, lv, tk)) := by
            have := room_ask (s := (x, lv, tk)) k1 (by show cN x < 3; omega) hob
            unfold runAt
            rw [decide_eq_true k1, decide_eq_true c1, ← this, c1]; rfl
          generalize roomS (x, lv, tk) = r at *
          by_cases r0 : 0 ≤ r
          · have t3 : decide (0 ≤ r) = true := decide_eq_true r0
            rw [t3] at hra
            rw [if_pos hra] at hp0
            have hlen : (runsTo S m j).length < (runsTo S m N).length := by
              have := hp.length_le
              rw [hp0, List.length_append, List.length_singleton] at this
              omega
            replace hp0 := Lib.hid hp0
            replace hp := Lib.hid hp
            replace hlen := Lib.hid hlen
            clear hra k1 c1 hob
            gi_wp2
            refine ⟨trivial, (callsIn_wide.2 hRm).mono ?_⟩
            rintro e w4 ⟨rfl, hb4⟩
            have hB4 := hB3.trans (hb4.mono (Nat.le_trans hn₀ hB3.size))
            have hJ4 := hJ.out _ _ _ hJ3 hb4
            obtain ⟨fn, tmps, assign, body, hy, hR⟩ := hY.out (runsTo S m j) j w4 hJ4 hlen.out
            clear hRm hJ3
            gi_wp2
            refine hR.mono ?_
            rintro e W5 (⟨rfl, hJ5, hk5⟩ | ⟨rfl, hJx5⟩)
            · gi_wp2
              go_roundw
              case rel => exact ⟨j + 1, by omega, by go_num, by rw [hp0.out]; exact hJ5, hB4.trans hk5⟩
              case measure => first | (simp [intOf]; done) | (simp [intOf]; omega)
            · gi_wp2
              refine bodyPost_ret (results_none rfl _ _ _) rfl ?_
              exact ⟨⟨_, rfl⟩, .inr ⟨runsTo S m j ++ [j], by rw [← hp0.out]; exact hp.out, hJx5⟩⟩
          · have t3 : decide (0 ≤ r) = false := decide_eq_false r0
            rw [t3] at hra
            rw [if_neg (by rw [hra]; simp)] at hp0
            rw [List.append_nil] at hp0
            replace hp0 := Lib.hid hp0
            replace hp := Lib.hid hp
            clear hra
            clear k1 c1 hob
            gi_wp2
            refine ⟨trivial, (callsIn_wide.2 hRm).mono ?_⟩
            rintro e w4 ⟨rfl, hb4⟩
            have hB4 := hB3.trans (hb4.mono (Nat.le_trans hn₀ hB3.size))
            have hJ4 := hJ.out _ _ _ hJ3 hb4
            clear hRm hJ3
            gi_wp2
            refine ⟨fun f hf => (by cases hf), ?_⟩
            gi_wp2
            go_roundw
            case rel => exact ⟨j + 1, by omega, by go_num, by rw [hp0.out]; exact hJ4, hB4⟩
            case measure => first | (simp [intOf]; done) | (simp [intOf]; omega)
        · have t2 : (((cN x : Nat) : Int) == (m : Int)) = false := by rw [beq_eq_false_iff_ne]; omega
          have hra : runAt m (x, lv, tk) = false := by unfold runAt; rw [decide_eq_false (show ¬ cN x = m from c1)]; simp
          rw [if_neg (by rw [hra]; simp)] at hp0
          rw [List.append_nil] at hp0
          replace hp0 := Lib.hid hp0
          replace hp := Lib.hid hp
          clear hra
          clear k1 c1 hob hRm
          gi_wp2
          refine ⟨trivial, ?_⟩
          gi_wp2
          refine ⟨fun f hf => (by cases hf), ?_⟩
          gi_wp2
          go_roundw
          case rel => exact ⟨j + 1, by omega, by go_num, by rw [hp0.out]; exact hJ3, hB3⟩
          case measure => first | (simp [intOf]; done) | (simp [intOf]; omega)
      · have t1 : (((kN x : Nat) : Int) == 1) = false := by rw [beq_eq_false_iff_ne]; omega
        have hra : runAt m (x, lv, tk) = false := by unfold runAt; rw [decide_eq_false (show ¬ kN x = 1 from k1)]; simp
        rw [if_neg (by rw [hra]; simp)] at hp0
        rw [List.append_nil] at hp0
        replace hp0 := Lib.hid hp0
        replace hp := Lib.hid hp
        clear hra
        clear k1 hob hRm
        gi_wp2
        refine ⟨trivial, ?_⟩
        gi_wp2
        refine ⟨fun f hf => (by cases hf), ?_⟩
        gi_wp2
        go_roundw
        case rel => exact ⟨j + 1, by omega, by go_num, by rw [hp0.out]; exact hJ3, hB3⟩
        case measure => first | (simp [intOf]; done) | (simp [intOf]; omega)
    · obtain rfl : j = N := by omega
      gi_wp2
      go_end0
      exact ⟨⟨_, rfl⟩, .inl ⟨_, rfl, hJr⟩⟩
end Go.Proofs.YtnjifmecaeagaaaDoor
end
section
set_option linter.unusedVariables false
set_option linter.unusedSimpArgs false
namespace Go.Proofs.YtnjifmecaeagaaaDoor
open Go.RowKit Go.ChangeShapes Go.WideShapes Go.Deep Go.Shelf
def ItP (g : Nat) (w : World) (B m : Nat) (e : Ending) (w' : World) : Prop := ∃ Bx Bm, e = .returned (.func (.func g) #[] #[.pointer (some ⟨Bx, 0, none⟩), .pointer (some ⟨Bm, 0, none⟩)]) ∧ w'.cell? ⟨Bx, 0, none⟩ = some (.pointer (some ⟨B, 0, none⟩)) ∧ w'.cell? ⟨Bm, 0, none⟩ = some (.int .i64 (m : Nat))
set_option maxHeartbeats 1000000 in
theorem rowsF_any (B m : Nat) (w : World) : Calls Tryd.prog 82 #[.pointer (some ⟨B, 0, none⟩), .int .i64 (m : Nat)] w fun e w' => ItP 99 w B m e w' ∧ Below w.heap.size w w' := by
  have hA := ((Below.refl w.heap.size w).alloc (Nat.le_refl _) (.cells #[.pointer (some ⟨B, 0, none⟩)] 56)).alloc (by simp) (.cells #[.int .i64 (m : Nat)] 3)
  go_enter Tryd.func82, Tryd.ntmps82
  go_wp2_with fail
  go_ret
  exact ⟨⟨_, _, rfl, by simp [go_sem], by simp [go_sem]⟩, hA⟩
set_option maxHeartbeats 1000000 in
theorem runsF_any (B m : Nat) (w : World) : Calls Tryd.prog 97 #[.pointer (some ⟨B, 0, none⟩), .int .i64 (m : Nat)] w fun e w' => ItP 106 w B m e w' ∧ Below w.heap.size w w' := by
  have hA := ((Below.refl w.heap.size w).alloc (Nat.le_refl _) (.cells #[.pointer (some ⟨B, 0, none⟩)] 56)).alloc (by simp) (.cells #[.int .i64 (m : Nat)] 3)
  go_enter Tryd.func97, Tryd.ntmps97
  go_wp2_with fail
  go_ret
  exact ⟨⟨_, _, rfl, by simp [go_sem], by simp [go_sem]⟩, hA⟩
theorem abidesN {J : List Nat → World → Prop} {B : Nat} (h : AbidesFrom B J) : ∀ pre W1 W2, J pre W1 → Below W1.heap.size W1 W2 → J pre W2 := fun pre W1 W2 hj hb =>
  h pre W1 W2 none hj ⟨hb.os, hb.tape, hb.output, hb.size, fun k hk _ => hb.block k hk⟩ (fun r e => by cases e)
theorem cell_lt {w : World} {b : Nat} {v : Value} (h : w.cell? ⟨b, 0, none⟩ = some v) : b < w.heap.size := World.block_lt_of_cell? _ _ h
theorem cell_belowN {w W W1 : World} {b : Nat} {v : Value} (h : w.cell? ⟨b, 0, none⟩ = some v) (hb : Below w.heap.size w W) (h1 : Below w.heap.size W W1) : W1.cell? ⟨b, 0, none⟩ = some v := cellK5 h (hb.trans h1)
/-- the first chunk with which so many in a row begin that can be had -/
theorem firstRows_any {w : World} {base B Bx Bm m : Nat} {v : Value} {S : List St} (hI : IxAt w base B v S) (hS : SOk S) (hl : S.length ≤ 10000) (hm : 1 ≤ m) (hm2 : m ≤ 8191)
    (hx : w.cell? ⟨Bx, 0, none⟩ = some (.pointer (some ⟨B, 0, none⟩))) (hb : w.cell? ⟨Bm, 0, none⟩ = some (.int .i64 (m : Nat))) :
    Calls Tryd.prog 81 #[.func (.func 99) #[] #[.pointer (some ⟨Bx, 0, none⟩), .pointer (some ⟨Bm, 0, none⟩)]] w fun e w' => e = .returned (.int .i64 (headI (rowsTo S m S.length))) ∧ Below w.heap.size w w' := by
  refine first_any trivial (enters_of Tryd.func99 (by kernel_rfl) rfl) (rowsTo S m S.length) w ?_
  intro l J Jx W hW hJ hJx hY h0
  exact rows1_in 2 (by omega) l Bx Bm B w.heap.size v S m hm hm2 hS hl J Jx (abidesN hJ) hY W hW.size (cellK5 hx hW) (fun w1 h1 => cell_belowN hb hW h1) (cellK5 hI.box.cell hW) (fun w1 h1 => ((hI.keep (hW.trans h1)).row.el eS_len)) h0
theorem firstRuns_any {w : World} {base B Bx Bm m : Nat} {v : Value} {S : List St} (hI : IxAt w base B v S) (hS : SOk S) (hl : S.length ≤ 10000) (hw : Lw w) (hm : m < 3)
    (hx : w.cell? ⟨Bx, 0, none⟩ = some (.pointer (some ⟨B, 0, none⟩))) (hb : w.cell? ⟨Bm, 0, none⟩ = some (.int .i64 (m : Nat))) :
    Calls Tryd.prog 81 #[.func (.func 106) #[] #[.pointer (some ⟨Bx, 0, none⟩), .pointer (some ⟨Bm, 0, none⟩)]] w fun e w' => e = .returned (.int .i64 (headI (runsTo S m S.length))) ∧ Below w.heap.size w w' := by
  refine first_any trivial (enters_of Tryd.func106 (by kernel_rfl) rfl) (runsTo S m S.length) w ?_
  intro l J Jx W hW hJ hJx hY h0
  exact runs1_in 2 (by omega) l Bx Bm B w.heap.size v S m hm hS hl J Jx (abidesN hJ) hY W hW.size (cellK5 hx hW) (fun w1 h1 => cell_belowN hb hW h1) (cellK5 hI.box.cell hW) (fun w1 h1 => ((hI.keep (hW.trans h1)).row.el eS_len)) (fun w1 h1 => hw.keep (hW.trans h1)) h0
end Go.Proofs.YtnjifmecaeagaaaDoor
end
section
set_option linter.unusedVariables false
set_option linter.unusedSimpArgs false
namespace Go.Proofs.YtnjifmecaeagaaaDoor
open Go.Lib Go.RowKit Go.ChangeShapes Go.WideShapes Go.Deep

theorem parts_tail : eS (3, 0, 0) = [.int .i64 3, .int .i64 0, .int .i64 0, .int .i64 0, .int .u64 0, .int .u64 0, .int .u64 0] := rfl
theorem eS_huge {m : Nat} (h : m ≤ 8191) : eS (2 + 2048 * m, 0, 1) = [.int .i64 2, .int .i64 0, .int .i64 0, .int .i64 (m : Nat), .int .u64 0, .int .u64 0, .int .u64 1] := by
  have e0 : kN (2 + 2048 * m) = 2 := by unfold kN; omega
  have e1 : cN (2 + 2048 * m) = 0 := by unfold cN; omega
  have e2 : lnN (2 + 2048 * m) = 0 := by unfold lnN; omega
  have e3 : mN (2 + 2048 * m) = m := by unfold mN; omega
  have e4 : bN (2 + 2048 * m) = 0 := by unfold bN; omega
  unfold eS
  rw [e0, e1, e2, e3, e4]; rfl
/-- a box of a place, with nothing in it -/
structure PlBox (w : World) (R : Nat) : Prop where
  blk : w.heap[R]? = some (.cells #[.int .i64 0, .int .i64 0, .int .i64 0, .int .i64 0, .bool false] 62 (0, 0))
theorem PlBox.new (w : World) : PlBox (w.alloc (.cells #[.int .i64 0, .int .i64 0, .int .i64 0, .int .i64 0, .bool false] 62)) w.heap.size := ⟨World.alloc_heap_new w _⟩
theorem PlBox.cells {w : World} {R : Nat} (h : PlBox w R) : (w.cell? ⟨R, 0, none⟩ = some (.int .i64 0) ∧ w.cell? ⟨R, 1, none⟩ = some (.int .i64 0) ∧ w.cell? ⟨R, 2, none⟩ = some (.int .i64 0) ∧ w.cell? ⟨R, 3, none⟩ = some (.int .i64 0) ∧ w.cell? ⟨R, 4, none⟩ = some (.bool false)) ∧ ∀ k, w.frozen? ⟨R, k, none⟩ = false := by
  refine ⟨⟨?_, ?_, ?_, ?_, ?_⟩, fun k => (row_cell h.blk k).2⟩
  · exact (row_cell h.blk 0).1
  · exact (row_cell h.blk 1).1
  · exact (row_cell h.blk 2).1
  · exact (row_cell h.blk 3).1
  · exact (row_cell h.blk 4).1
theorem PlBox.keep {w w1 : World} {R : Nat} (h : PlBox w R) (hb : Below w.heap.size w w1) : PlBox w1 R := ⟨(hb.block R (Array.getElem?_eq_some_iff.1 h.blk).1).trans h.blk⟩
theorem PlBox.chg {w w1 : World} {R : Nat} {P : Nat → Prop} (h : PlBox w R) (hc : Chg P w w1) (hn : ¬ P R) : PlBox w1 R := ⟨(hc.block R (Array.getElem?_eq_some_iff.1 h.blk).1 hn).trans h.blk⟩
/-- a place is put into its box -/
def plW (w : World) (R : Nat) (ch ix cl mn : Int) (fr : Bool) : World := (((((w.setCell ⟨R, 0, none⟩ (.int .i64 ch)).setCell ⟨R, 1, none⟩ (.int .i64 ix)).setCell ⟨R, 2, none⟩ (.int .i64 cl)).setCell ⟨R, 3, none⟩ (.int .i64 mn)).setCell ⟨R, 4, none⟩ (.bool fr))
theorem PlBox.put {w : World} {R : Nat} (h : PlBox w R) (ch ix cl mn : Int) (fr : Bool) : ((plW w R ch ix cl mn fr).cell? ⟨R, 0, none⟩ = some (.int .i64 ch) ∧ (plW w R ch ix cl mn fr).cell? ⟨R, 1, none⟩ = some (.int .i64 ix) ∧ (plW w R ch ix cl mn fr).cell? ⟨R, 2, none⟩ = some (.int .i64 cl) ∧ (plW w R ch ix cl mn fr).cell? ⟨R, 3, none⟩ = some (.int .i64 mn) ∧ (plW w R ch ix cl mn fr).cell? ⟨R, 4, none⟩ = some (.bool fr)) ∧ Chg (fun k => k = R) w (plW w R ch ix cl mn fr) := by
  have b1 := heap_setCell_same w R 0 _ _ (.int .i64 ch) h.blk
  have b2 := heap_setCell_same _ R 1 _ _ (.int .i64 ix) b1
  have b3 := heap_setCell_same _ R 2 _ _ (.int .i64 cl) b2
  have b4 := heap_setCell_same _ R 3 _ _ (.int .i64 mn) b3
  have b5 := heap_setCell_same _ R 4 _ _ (.bool fr) b4
  have k := fun (v : Value) (a : World) (o : Nat) => Chg.setCell (S := fun k => k = R) a R o v rfl
  refine ⟨⟨(row_cell b5 0).1.trans rfl, (row_cell b5 1).1.trans rfl, (row_cell b5 2).1.trans rfl, (row_cell b5 3).1.trans rfl, (row_cell b5 4).1.trans rfl⟩, ?_⟩
  exact ((((k _ _ _).trans (k _ _ _) (fun j q => .inl q)).trans (k _ _ _) (fun j q => .inl q)).trans (k _ _ _) (fun j q => .inl q)).trans (k _ _ _) (fun j q => .inl q)
abbrev plV (ch ix cl mn : Int) (fr : Bool) : Value := .agg #[.int .i64 ch, .int .i64 ix, .int .i64 cl, .int .i64 mn, .bool fr]
set_option maxRecDepth 10000 in
set_option maxHeartbeats 1000000 in
theorem takeHuge_no {w : World} {base B : Nat} {v : Value} {S : List St} (hI : IxAt w base B v S) (hS : SOk S) (hl : S.length ≤ 10000) (m : Nat) (hm : 1 ≤ m) (hm2 : m ≤ 8191) (h : (rowsTo S m S.length).head? = none) :
    Calls Tryd.prog 74 #[.pointer (some ⟨B, 0, none⟩), .int .i64 (m : Nat)] w fun e w' => e = .returned (.tuple #[plV 0 0 0 0 false, .int .i64 2]) ∧ Below w.heap.size w w' := by
  have hA := (Below.refl w.heap.size w).alloc (Nat.le_refl _) (.cells #[.int .i64 0, .int .i64 0, .int .i64 0, .int .i64 0, .bool false] 62)
  have hI1 := hI.keep hA
  have hR1 := PlBox.new w
  have hRo := rowsF_any B m (w.alloc (.cells #[.int .i64 0, .int .i64 0, .int .i64 0, .int .i64 0, .bool false] 62))
  have hFi := Lib.hid (fun w1 Bx Bm (hI2 : IxAt w1 base B v S) => firstRows_any (Bx := Bx) (Bm := Bm) hI2 hS hl hm hm2)
  have hH : headI (rowsTo S m S.length) = -1 := by
    cases hr : rowsTo S m S.length with
    | nil => rfl
    | cons a t => rw [hr] at h; simp at h
  rw [hH] at hFi
  clear h hH hS hl hI
  go_enter Tryd.func74, Tryd.ntmps74
  go_wp2_with fail
  refine hRo.mono ?_
  rintro e w2 ⟨⟨Bx, Bm, rfl, hx, hb⟩, hb2⟩
  have hI2 := hI1.keep hb2
  have hR2 := hR1.keep hb2
  have hB2 := hA.trans (hb2.mono hA.size)
  clear hRo
  go_wp2_with fail
  refine (hFi.out w2 Bx Bm hI2 hx hb).mono ?_
  rintro e w3 ⟨rfl, hb3⟩
  obtain ⟨⟨r0, r1, r2, r3, r4⟩, rf⟩ := (hR2.keep hb3).cells
  have hB3 := hB2.trans (hb3.mono hB2.size)
  go_wp2_with fail
  obtain ⟨⟨y0, y1, y2, y3, y4⟩, hch⟩ := (hR2.keep hb3).put 0 0 0 0 false
  have hBW : Below w.heap.size w (plW w3 w.heap.size 0 0 0 0 false) := hB3.trans (hch.below (fun q h => by omega) hB3.size)
  change bodyPost _ _ _ _ _ (plW w3 w.heap.size 0 0 0 0 false)
  generalize plW w3 w.heap.size 0 0 0 0 false = W at *
  refine bodyPost_ret (v := .tuple #[plV 0 0 0 0 false, .int .i64 2]) ?_ rfl ⟨rfl, hBW⟩
  simp [results, Tryd.f74, go_sem, y0, y1, y2, y3, y4]
end Go.Proofs.YtnjifmecaeagaaaDoor
end
