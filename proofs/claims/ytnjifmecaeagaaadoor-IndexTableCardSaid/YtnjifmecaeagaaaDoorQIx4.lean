/-
  Package index: vacate (clear of a row of chunks).
-/
import Derived.Test.YtnjifmecaeagaaaDoorQIx3
set_option linter.unusedVariables false
set_option linter.unusedSimpArgs false
namespace Go.Proofs.YtnjifmecaeagaaaDoor
open Go.Lib Go.RowKit Go.ChangeShapes Go.WideShapes Go.Deep

def setL (L : List Value) (k : Nat) : List Value → List Value
  | [] => L
  | v :: r => setL (L.set k v) (k + 1) r
theorem setL_len : ∀ (vs L : List Value) (k : Nat), (setL L k vs).length = L.length
  | [], _, _ => rfl
  | v :: r, L, k => by rw [setL, setL_len r, List.length_set]
theorem setL_at : ∀ (vs L : List Value) (k p : Nat), k + vs.length ≤ L.length → (setL L k vs)[p]? = if k ≤ p ∧ p < k + vs.length then vs[p - k]? else L[p]?
  | [], L, k, p, _ => by rw [setL, if_neg (by simp)]
  | v :: r, L, k, p, h => by
    rw [List.length_cons] at h ⊢
    rw [setL, setL_at r (L.set k v) (k + 1) p (by rw [List.length_set]; omega), List.getElem?_set]
    by_cases e : k = p
    · subst e
      rw [if_neg (by omega), if_pos rfl, if_pos (by omega), if_pos (by omega), Nat.sub_self]; rfl
    · rw [if_neg e]
      by_cases q : k + 1 ≤ p ∧ p < k + 1 + r.length
      · rw [if_pos q, if_pos (by omega), show p - k = (p - (k + 1)) + 1 by omega, List.getElem?_cons_succ]
      · rw [if_neg q, if_neg (by omega)]
theorem stored_list {e : TypeId} {sz : Nat} {base g n cap : Nat} : ∀ (vs xs : List Value) (k : Nat) (w : World), w.ownsRow base e sz (.slice (some ⟨g, 0, none⟩) n cap) n xs →
    (w.setCells g k vs).ownsRow base e sz (.slice (some ⟨g, 0, none⟩) n cap) n (setL xs k vs) ∧ Chg (fun b => b = g) w (w.setCells g k vs)
  | [], _, _, w, h => ⟨h, Chg.refl _ _⟩
  | v :: r, xs, k, w, h => by
    have h1 := World.ownsRow.stored h k v
    have h2 := stored_list r (xs.set k v) (k + 1) _ h1.1
    exact ⟨h2.1, (Chg.setCell (S := fun b => b = g) w g k v rfl).trans h2.2 (fun j q => .inl q)⟩
theorem eS_zero : eS (0, 0, 0) = [.int .i64 0, .int .i64 0, .int .i64 0, .int .i64 0, .int .u64 0, .int .u64 0, .int .u64 0] := rfl
theorem zero_cells (m : Nat) : (Builtin.zeroCells #[.int .i64 0, .int .i64 0, .int .i64 0, .int .i64 0, .int .u64 0, .int .u64 0, .int .u64 0] m).toList = (List.replicate m ((0, 0, 0) : St)).flatMap eS := by
  apply List.ext_getElem?
  intro p
  have hl : ((List.replicate m ((0, 0, 0) : St)).flatMap eS).length = m * 7 := by rw [fm_len eS_len, List.length_replicate]
  by_cases hp : p < m * 7
  · have hq : p / 7 < m := by omega
    have h7 : p % 7 < 7 := Nat.mod_lt _ (by omega)
    have hr := fm_at eS_len (List.replicate m ((0, 0, 0) : St)) (p / 7) (p % 7) (by rw [List.length_replicate]; exact hq) h7
    rw [show p / 7 * 7 + p % 7 = p by omega] at hr
    rw [hr]
    have hg : (List.replicate m ((0, 0, 0) : St)).getD (p / 7) default = (0, 0, 0) := by
      rw [List.getD_eq_getElem?_getD, List.getElem?_replicate, if_pos hq]; rfl
    rw [hg, eS_zero]
    unfold Builtin.zeroCells
    rw [Array.toList_map, List.getElem?_map, Array.toList_range, List.getElem?_range (by simpa using hp)]
    simp only [Option.map_some]
    have h9 : p % 7 = 0 ∨ p % 7 = 1 ∨ p % 7 = 2 ∨ p % 7 = 3 ∨ p % 7 = 4 ∨ p % 7 = 5 ∨ p % 7 = 6 := by omega
    have hs : ∀ (v0 v1 v2 v3 v4 v5 v6 : Value), (#[v0, v1, v2, v3, v4, v5, v6] : Array Value).size = 7 := fun _ _ _ _ _ _ _ => rfl
    rw [hs]
    rcases h9 with e | e | e | e | e | e | e <;> rw [e] <;> rfl
  · rw [List.getElem?_eq_none (by unfold Builtin.zeroCells; simp; omega), List.getElem?_eq_none (by rw [hl]; omega)]
theorem setL_fill (S : List St) (i m : Nat) (h : i + m ≤ S.length) : setL (S.flatMap eS) (i * 7) ((List.replicate m ((0, 0, 0) : St)).flatMap eS) = (fillS S i (0, 0, 0) m).flatMap eS := by
  apply List.ext_getElem?
  intro p
  have hl : ((List.replicate m ((0, 0, 0) : St)).flatMap eS).length = m * 7 := by rw [fm_len eS_len, List.length_replicate]
  have hS : (S.flatMap eS).length = S.length * 7 := fm_len eS_len S
  have hF : ((fillS S i (0, 0, 0) m).flatMap eS).length = S.length * 7 := by rw [fm_len eS_len, fill_len]
  rw [setL_at _ _ _ _ (by rw [hl, hS]; omega), hl]
  by_cases hp : p < S.length * 7
  · have h7 : p % 7 < 7 := Nat.mod_lt _ (by omega)
    have hr := fm_at eS_len (fillS S i (0, 0, 0) m) (p / 7) (p % 7) (by rw [fill_len]; omega) h7
    rw [show p / 7 * 7 + p % 7 = p by omega] at hr
    rw [hr]
    have hf := fill_at S i (0, 0, 0) m h (p / 7)
    simp only [gS] at hf
    rw [hf]
    by_cases q : i * 7 ≤ p ∧ p < i * 7 + m * 7
    · rw [if_pos q, if_pos (by omega)]
      have h2 := fm_at eS_len (List.replicate m ((0, 0, 0) : St)) (p / 7 - i) (p % 7) (by rw [List.length_replicate]; omega) h7
      rw [show (p / 7 - i) * 7 + p % 7 = p - i * 7 by omega] at h2
      rw [h2, List.getD_eq_getElem?_getD, List.getElem?_replicate, if_pos (by omega)]; rfl
    · rw [if_neg q, if_neg (by omega)]
      have h2 := fm_at eS_len S (p / 7) (p % 7) (by omega) h7
      rw [show p / 7 * 7 + p % 7 = p by omega] at h2
      exact h2
  · rw [if_neg (by omega), List.getElem?_eq_none (by rw [hS]; omega), List.getElem?_eq_none (by rw [hF]; omega)]
theorem eS_one (s : St) : ∀ v ∈ eS s, v.oneCell' = true := fun v hv => by
  simp only [eS, List.mem_cons, List.not_mem_nil, or_false] at hv
  rcases hv with rfl | rfl | rfl | rfl | rfl | rfl | rfl <;> rfl
theorem zv_run {P : Program} {e : TypeId} {i0 : TypeInfo} {z : Value} (hi : P.info? e = some i0) (hz : i0.zero = some z) (w : World) : (zeroValue e).run P w = .ok z w := by
  simp [zeroValue, typeInfo, hi, hz, Result.andThen]
theorem clear_run {w : World} {base g n cap : Nat} {S : List St} (h : SKO w base (.slice (some ⟨g, 0, none⟩) n cap) S) (hn : S.length = n) (i m c : Nat) (hm : 0 < m) (him : i + m ≤ n) (ty : TypeId) :
    ∃ w', (Builtin.clear_ #[95] ty #[.slice (some ⟨g, i * 7, none⟩) m c]).run Tryd.prog w = .ok (.tuple #[]) w' ∧ SKO w' base (.slice (some ⟨g, 0, none⟩) n cap) (fillS S i (0, 0, 0) m) ∧ Chg (fun b => b = g) w w' := by
  obtain ⟨k1, k2⟩ := stored_list ((List.replicate m ((0, 0, 0) : St)).flatMap eS) (S.flatMap eS) (i * 7) w (by have := h; unfold SKO OwnE at this; rw [hn] at this; exact this)
  refine ⟨w.setCells g (i * 7) ((List.replicate m ((0, 0, 0) : St)).flatMap eS), ?_, ?_, k2⟩
  · have hl : ((List.replicate m ((0, 0, 0) : St)).flatMap eS).length = m * 7 := by rw [fm_len eS_len, List.length_replicate]
    have hcell : ∀ j, j < m * 7 → (w.cell? ⟨g, i * 7 + j, none⟩).isSome = true ∧ w.frozen? ⟨g, i * 7 + j, none⟩ = false := fun j hj => by
      have h7 : j % 7 < 7 := Nat.mod_lt _ (by omega)
      obtain ⟨q1, q2⟩ := OwnE.cell eS_len h hn (i := i + j / 7) (j := j % 7) (by omega) h7
      rw [show (i + j / 7) * 7 + j % 7 = i * 7 + j by omega] at q1 q2
      refine ⟨?_, q2⟩
      rw [q1, List.getElem?_eq_getElem (by rw [eS_len]; exact h7)]; rfl
    have hst := run_storeCells_cells (P := Tryd.prog) g (i * 7) ((List.replicate m ((0, 0, 0) : St)).flatMap eS) 0 w (by rw [hl, Nat.add_zero]; exact fun j hj => (hcell j hj).1) (by rw [hl, Nat.add_zero]; exact fun j hj => (hcell j hj).2)
      (fun v hv => by obtain ⟨s, _, hs⟩ := List.mem_flatMap.1 hv; exact eS_one s v hs)
    rw [Nat.add_zero, ← zero_cells] at hst
    rw [← zero_cells]
    obtain ⟨m', rfl⟩ : ∃ m', m = m' + 1 := ⟨m - 1, by omega⟩
    obtain ⟨i0, hi, hz, _⟩ := info_parts infoS
    have hv : ∀ w, (zeroValue 99).run Tryd.prog w = .ok (.agg #[.int .i64 0, .int .i64 0, .int .i64 0, .int .i64 0, .int .u64 0, .int .u64 0, .int .u64 0]) w := zv_run hi hz
    have hc : (Value.agg #[.int .i64 0, .int .i64 0, .int .i64 0, .int .i64 0, .int .u64 0, .int .u64 0, .int .u64 0]).cells = #[.int .i64 0, .int .i64 0, .int .i64 0, .int .i64 0, .int .u64 0, .int .u64 0, .int .u64 0] := by simp [go_sem]
    simp [Builtin.clear_, run_underlying Tryd.underlying95, hv, hc, hst]
  · unfold SKO OwnE
    rw [fill_len, hn, ← setL_fill S i m (by omega)]
    exact k1
theorem wp_clear_run {P : Program} {w w' : World} {o : Oper} {a : Act} {K : Act → World → Prop} {Q : Exit → Act → World → Prop} (s : Operand) (t : TypeId)
    (hop : o.op = Op.call { callee := Callee.builtin Builtin.clear, args := #[s], argTypes := #[t] }) (vs v : Value) (hs : a.eval s = vs)
    (hrun : (Builtin.clear_ #[t] o.type #[vs]).run P w = .ok v w') (h : K (a.put o.dst v) w') : Oper.wp P o a w K Q := by
  unfold Oper.wp
  simp [execOp, hop, resolve, invoke, builtin, hs, hrun, Result.andThen]
  exact h

set_option maxRecDepth 10000 in
set_option maxHeartbeats 1000000 in
theorem vac_no {w : World} (B : Nat) (ch ix cl mn : Int) (fr : Bool) (h : ¬ cl = -1) :
    Calls Tryd.prog 79 #[.pointer (some ⟨B, 0, none⟩), .agg #[.int .i64 ch, .int .i64 ix, .int .i64 cl, .int .i64 mn, .bool fr]] w fun e w' => e = .returned (.tuple #[]) ∧ Below w.heap.size w w' := by
  have hA := (Below.refl w.heap.size w).alloc (Nat.le_refl _) (.cells #[.int .i64 ch, .int .i64 ix, .int .i64 cl, .int .i64 mn, .bool fr] 62)
  have t6 : (cl == -1) = false := by rw [beq_eq_false_iff_ne]; exact h
  clear h
  go_enter Tryd.func79, Tryd.ntmps79
  go_wp2_with fail
  go_end0
  exact ⟨rfl, hA⟩
set_option maxRecDepth 10000 in
set_option maxHeartbeats 1000000 in
theorem vac_yes {w : World} {base B : Nat} {v : Value} {S : List St} (hI : IxAt w base B v S) (i m : Nat) (ix : Int) (fr : Bool) (h1 : 1 ≤ m) (h : i + m ≤ S.length) (hl : S.length ≤ 10000) :
    Calls Tryd.prog 79 #[.pointer (some ⟨B, 0, none⟩), .agg #[.int .i64 (i : Nat), .int .i64 ix, .int .i64 (-1), .int .i64 (m : Nat), .bool fr]] w fun e w' => e = .returned (.tuple #[]) ∧ IxAt w' base B v (fillS S i (0, 0, 0) m) ∧ Chg (fun k => v.ownBlock = some k) w w' := by
  have hA := (Below.refl w.heap.size w).alloc (Nat.le_refl _) (.cells #[.int .i64 (i : Nat), .int .i64 ix, .int .i64 (-1), .int .i64 (m : Nat), .bool fr] 62)
  have hI1 := hI.keep hA
  have xB := hI1.box.cell
  obtain ⟨nn, hnn⟩ : ∃ n, S.length = n := ⟨_, rfl⟩
  obtain ⟨g, cap, rfl, _, _, hcap⟩ := hI1.row.form (by omega)
  obtain ⟨w2, hrun, ho, hch⟩ := clear_run (w := (w.alloc (.cells #[.int .i64 (i : Nat), .int .i64 ix, .int .i64 (-1), .int .i64 (m : Nat), .bool fr] 62)).drew) hI1.row.drew rfl i m (cap - i) h1 h 0
  rw [hnn] at ho hI1 h hl hcap ⊢
  have hW1 : (w.alloc (.cells #[.int .i64 (i : Nat), .int .i64 ix, .int .i64 (-1), .int .i64 (m : Nat), .bool fr] 62)).drew.heap.size = w.heap.size + 1 := by simp [go_sem]
  obtain ⟨C, hC⟩ : ∃ C, w.heap.size = C := ⟨_, rfl⟩
  obtain ⟨p0, p2, p3⟩ : (w.alloc (.cells #[.int .i64 (i : Nat), .int .i64 ix, .int .i64 (-1), .int .i64 (m : Nat), .bool fr] 62)).cell? ⟨C, 0, none⟩ = some (.int .i64 ((i : Nat) : Int)) ∧ (w.alloc (.cells #[.int .i64 (i : Nat), .int .i64 ix, .int .i64 (-1), .int .i64 (m : Nat), .bool fr] 62)).cell? ⟨C, 2, none⟩ = some (.int .i64 (-1)) ∧ (w.alloc (.cells #[.int .i64 (i : Nat), .int .i64 ix, .int .i64 (-1), .int .i64 (m : Nat), .bool fr] 62)).cell? ⟨C, 3, none⟩ = some (.int .i64 ((m : Nat) : Int)) := by
    rw [← hC]; refine ⟨?_, ?_, ?_⟩ <;> simp [go_sem]
  obtain ⟨e, he⟩ : ∃ e, e = i + m := ⟨_, rfl⟩
  have t6 : IntKind.i64.wrap (((i : Nat) : Int) + ((m : Nat) : Int)) = ((e : Nat) : Int) := by rw [IntKind.wrap_i64]; omega
  have e1 : e ≤ cap := by omega
  have e2 : i ≤ e := by omega
  have e3 : ¬ cap = i := by omega
  have e4 : e - i = m := by omega
  replace he := Lib.hid he
  have hrow := hI1.row
  have hgB : ∀ k, Value.ownBlock (.slice (some ⟨g, 0, none⟩) nn cap) = some k → k ≠ B := hI1.ne
  clear hI
  go_enter Tryd.func79, Tryd.ntmps79
  go_wp2_with fail
  (try simp only [hC])
  generalize (w.alloc (.cells #[.int .i64 (i : Nat), .int .i64 ix, .int .i64 (-1), .int .i64 (m : Nat), .bool fr] 62)) = W1 at *
  clear hC
  refine wp_region_tail (S := (fun w' => w' = W1.drew)) (n := 12) (by kernel_rfl) ?_ (fun hHeld hInv => ?_) (by decide)
  · (try dsimp only)
    all_goals rfl
  refine takeS 0 (v := ?_) (tailAt (by kernel_rfl)) hInv (by decide) rfl (by kernel_rfl) (by kernel_rfl) (by kernel_rfl) (fun _ _ _ h => h) (by rfl) (by assumption) ?_ (fun hInv2 => ?_)
  rotate_left
  · (intro w hSw; (try dsimp only at hSw); (subst hSw); go_simp <;> with_reducible rfl)
  clear hInv
  have hInv := hInv2
  clear hInv2
  try simp only [Act.put, List.setIfInBounds_toArray, List.set_cons_zero, List.set_cons_succ] at hInv ⊢
  refine takeS 1 (v := ?_) (tailAt (by kernel_rfl)) hInv (by decide) rfl (by kernel_rfl) (by kernel_rfl) (by kernel_rfl) (fun _ _ _ h => h) (by rfl) (by assumption) ?_ (fun hInv2 => ?_)
  rotate_left
  · (intro w hSw; (try dsimp only at hSw); (subst hSw); go_simp <;> with_reducible rfl)
  clear hInv
  have hInv := hInv2
  clear hInv2
  try simp only [Act.put, List.setIfInBounds_toArray, List.set_cons_zero, List.set_cons_succ] at hInv ⊢
  refine takeS 2 (v := ?_) (tailAt (by kernel_rfl)) hInv (by decide) rfl (by kernel_rfl) (by kernel_rfl) (by kernel_rfl) (fun _ _ _ h => h) (by rfl) (by assumption) ?_ (fun hInv2 => ?_)
  rotate_left
  · (intro w hSw; (try dsimp only at hSw); (subst hSw); go_simp <;> with_reducible rfl)
  clear hInv
  have hInv := hInv2
  clear hInv2
  try simp only [Act.put, List.setIfInBounds_toArray, List.set_cons_zero, List.set_cons_succ] at hInv ⊢
  refine takeS 3 (v := ?_) (tailAt (by kernel_rfl)) hInv (by decide) rfl (by kernel_rfl) (by kernel_rfl) (by kernel_rfl) (fun _ _ _ h => h) (by rfl) (by assumption) ?_ (fun hInv2 => ?_)
  rotate_left
  · (intro w hSw; (try dsimp only at hSw); (subst hSw); go_simp <;> with_reducible rfl)
  clear hInv
  have hInv := hInv2
  clear hInv2
  try simp only [Act.put, List.setIfInBounds_toArray, List.set_cons_zero, List.set_cons_succ] at hInv ⊢
  refine takeS 4 (v := ?_) (tailAt (by kernel_rfl)) hInv (by decide) rfl (by kernel_rfl) (by kernel_rfl) (by kernel_rfl) (fun _ _ _ h => h) (by rfl) (by assumption) ?_ (fun hInv2 => ?_)
  rotate_left
  · (intro w hSw; (try dsimp only at hSw); (subst hSw); go_simp <;> with_reducible rfl)
  clear hInv
  have hInv := hInv2
  clear hInv2
  try simp only [Act.put, List.setIfInBounds_toArray, List.set_cons_zero, List.set_cons_succ] at hInv ⊢
  refine takeS 5 (v := ?_) (tailAt (by kernel_rfl)) hInv (by decide) rfl (by kernel_rfl) (by kernel_rfl) (by kernel_rfl) (fun _ _ _ h => h) (by rfl) (by assumption) ?_ (fun hInv2 => ?_)
  rotate_left
  · (intro w hSw; (try dsimp only at hSw); (subst hSw); go_simp <;> with_reducible rfl)
  clear hInv
  have hInv := hInv2
  clear hInv2
  try simp only [Act.put, List.setIfInBounds_toArray, List.set_cons_zero, List.set_cons_succ] at hInv ⊢
  refine takeS 6 (v := ?_) (tailAt (by kernel_rfl)) hInv (by decide) rfl (by kernel_rfl) (by kernel_rfl) (by kernel_rfl) (fun _ _ _ h => h) (by rfl) (by assumption) ?_ (fun hInv2 => ?_)
  rotate_left
  · (intro w hSw; (try dsimp only at hSw); (subst hSw); go_simp <;> with_reducible rfl)
  clear hInv
  have hInv := hInv2
  clear hInv2
  try simp only [Act.put, List.setIfInBounds_toArray, List.set_cons_zero, List.set_cons_succ] at hInv ⊢
  refine takeS 7 (v := ?_) (tailAt (by kernel_rfl)) hInv (by decide) rfl (by kernel_rfl) (by kernel_rfl) (by kernel_rfl) (fun _ _ _ h => h) (by rfl) (by assumption) ?_ (fun hInv2 => ?_)
  rotate_left
  · (intro w hSw; (try dsimp only at hSw); (subst hSw); go_simp <;> with_reducible rfl)
  clear hInv
  have hInv := hInv2
  clear hInv2
  try simp only [Act.put, List.setIfInBounds_toArray, List.set_cons_zero, List.set_cons_succ] at hInv ⊢
  refine takeS 8 (v := ?_) (tailAt (by kernel_rfl)) hInv (by decide) rfl (by kernel_rfl) (by kernel_rfl) (by kernel_rfl) (fun _ _ _ h => h) (by rfl) (by assumption) ?_ (fun hInv2 => ?_)
  rotate_left
  · (intro w hSw; (try dsimp only at hSw); (subst hSw); go_simp <;> with_reducible rfl)
  clear hInv
  have hInv := hInv2
  clear hInv2
  try simp only [Act.put, List.setIfInBounds_toArray, List.set_cons_zero, List.set_cons_succ] at hInv ⊢
  refine takeS 9 (v := ?_) (tailAt (by kernel_rfl)) hInv (by decide) rfl (by kernel_rfl) (by kernel_rfl) (by kernel_rfl) (fun _ _ _ h => h) (by rfl) (by assumption) ?_ (fun hInv2 => ?_)
  rotate_left
  · (intro w hSw; (try dsimp only at hSw); (subst hSw); go_simp <;> with_reducible rfl)
  clear hInv
  have hInv := hInv2
  clear hInv2
  try simp only [Act.put, List.setIfInBounds_toArray, List.set_cons_zero, List.set_cons_succ] at hInv ⊢
  refine takeS 10 (v := ?_) (tailAt (by kernel_rfl)) hInv (by decide) rfl (by kernel_rfl) (by kernel_rfl) (by kernel_rfl) (fun _ _ _ h => h) (by rfl) (by assumption) ?_ (fun hInv2 => ?_)
  rotate_left
  · (intro w hSw; (try dsimp only at hSw); (subst hSw); go_simp <;> with_reducible rfl)
  clear hInv
  have hInv := hInv2
  clear hInv2
  try simp only [Act.put, List.setIfInBounds_toArray, List.set_cons_zero, List.set_cons_succ] at hInv ⊢
  refine takeS 11 (v := ?_) (tailAt (by kernel_rfl)) hInv (by decide) rfl (by kernel_rfl) (by kernel_rfl) (by kernel_rfl) (fun _ _ _ h => h) (by rfl) (by assumption) ?_ (fun hInv2 => ?_)
  rotate_left
  · (intro w hSw; (try dsimp only at hSw); (subst hSw); go_simp <;> with_reducible rfl)
  clear hInv
  have hInv := hInv2
  clear hInv2
  try simp only [Act.put, List.setIfInBounds_toArray, List.set_cons_zero, List.set_cons_succ] at hInv ⊢
  refine lastS 12 rfl (by decide) (by kernel_rfl) (fun K hK => ?_)
  rw [if_pos (by rfl)]
  refine wp_clear_run _ _ rfl _ _ rfl hrun ?_
  refine hK.out _ _ ?_
  clear hK K
  try simp only [Act.put, List.setIfInBounds_toArray, List.set_cons_zero, List.set_cons_succ]
  refine wpAnyS_done (by kernel_rfl) ?_ _
  go_wp2_with fail
  go_end0
  refine ⟨rfl, ⟨(hch.block B hI1.box.lt (fun q => ?_)).trans hI1.box, ho, hI1.lo⟩, (Chg.of_below _ hA.drew).trans hch (fun j q => .inl (by rw [q]; rfl))⟩
  exact hgB g rfl q.symm
theorem vac_any {w : World} {base B : Nat} {v : Value} {S : List St} (hI : IxAt w base B v S) (ch ix cl mn : Int) (fr : Bool) (h : cl = -1 → 0 ≤ ch ∧ 1 ≤ mn ∧ ch + mn ≤ S.length) (hl : S.length ≤ 10000) :
    Calls Tryd.prog 79 #[.pointer (some ⟨B, 0, none⟩), .agg #[.int .i64 ch, .int .i64 ix, .int .i64 cl, .int .i64 mn, .bool fr]] w fun e w' => e = .returned (.tuple #[]) ∧ IxAt w' base B v (vacS S ch cl mn) ∧ Chg (fun k => v.ownBlock = some k) w w' := by
  unfold vacS
  by_cases hc : cl = -1
  · subst hc
    obtain ⟨h1, h2, h3⟩ := h rfl
    obtain ⟨i, rfl⟩ : ∃ i : Nat, ch = (i : Int) := ⟨ch.toNat, by omega⟩
    obtain ⟨m, rfl⟩ : ∃ m : Nat, mn = (m : Int) := ⟨mn.toNat, by omega⟩
    rw [if_pos rfl, Int.toNat_natCast, Int.toNat_natCast]
    exact vac_yes hI i m ix fr (by omega) (by omega) hl
  · rw [if_neg hc]
    refine (vac_no B ch ix cl mn fr hc).mono ?_
    rintro e w2 ⟨rfl, hb⟩
    exact ⟨rfl, hI.keep hb, Chg.of_below _ hb⟩
end Go.Proofs.YtnjifmecaeagaaaDoor
