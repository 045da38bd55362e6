/-
  Package index: vacate (clear of a row of chunks).
  Package index: Free, Drop, Keep.
  Package index: Keep.
  Package index: a whole chunk is put; DropLog.
-/
import Derived.Test.YtnjifmecaeagaaaDoorQIx3
import Derived.Test.YtnjifmecaeagaaaDoorRegQ
section
set_option linter.unusedVariables false
set_option linter.unusedSimpArgs false
namespace Go.Proofs.YtnjifmecaeagaaaDoor
open Go.Lib Go.RowKit Go.ChangeShapes Go.WideShapes Go.Deep

def setL (L : List Value) (k : Nat) : List Value → List Value
  | [] => L
  | v :: r => setL (L.set k v) (k + 1) r
theorem setL_len : ∀ (vs L : List Value) (k : Nat), (setL L k vs).length = L.length
  | [], _, _ => rfl
  | v :: r, L, k => by rw [setL, setL_len r, List.length_set]
theorem setL_at : ∀ (vs L : List Value) (k p : Nat), k + vs.length ≤ L.length → (setL L k vs)[p]? = if k ≤ p ∧ p < k + vs.length then vs[p - k]? else L[p]?
  | [], L, k, p, _ => by rw [setL, if_neg (by simp)]
  | v :: r, L, k, p, h => by
    rw [List.length_cons] at h ⊢
    rw [setL, setL_at r (L.set k v) (k + 1) p (by rw [List.length_set]; omega), List.getElem?_set]
    by_cases e : k = p
    · subst e
      rw [if_neg (by omega), if_pos rfl, if_pos (by omega), if_pos (by omega), Nat.sub_self]; rfl
    · rw [if_neg e]
      by_cases q : k + 1 ≤ p ∧ p < k + 1 + r.length
      · rw [if_pos q, if_pos (by omega), show p - k = (p - (k + 1)) + 1 by omega, List.getElem?_cons_succ]
      · rw [if_neg q, if_neg (by omega)]
theorem stored_list {e : TypeId} {sz : Nat} {base g n cap : Nat} : ∀ (vs xs : List Value) (k : Nat) (w : World), w.ownsRow base e sz (.slice (some ⟨g, 0, none⟩) n cap) n xs →
    (w.setCells g k vs).ownsRow base e sz (.slice (some ⟨g, 0, none⟩) n cap) n (setL xs k vs) ∧ Chg (fun b => b = g) w (w.setCells g k vs)
  | [], _, _, w, h => ⟨h, Chg.refl _ _⟩
  | v :: r, xs, k, w, h => by
    have h1 := World.ownsRow.stored h k v
    have h2 := stored_list r (xs.set k v) (k + 1) _ h1.1
    exact ⟨h2.1, (Chg.setCell (S := fun b => b = g) w g k v rfl).trans h2.2 (fun j q => .inl q)⟩
theorem eS_zero : eS (0, 0, 0) = [.int .i64 0, .int .i64 0, .int .i64 0, .int .i64 0, .int .u64 0, .int .u64 0, .int .u64 0] := rfl
theorem zero_cells (m : Nat) : (Builtin.zeroCells #[.int .i64 0, .int .i64 0, .int .i64 0, .int .i64 0, .int .u64 0, .int .u64 0, .int .u64 0] m).toList = (List.replicate m ((0, 0, 0) : St)).flatMap eS := by
  apply List.ext_getElem?
  intro p
  have hl : ((List.replicate m ((0, 0, 0) : St)).flatMap eS).length = m * 7 := by rw [fm_len eS_len, List.length_replicate]
  by_cases hp : p < m * 7
  · have hq : p / 7 < m := by omega
    have h7 : p % 7 < 7 := Nat.mod_lt _ (by omega)
    have hr := fm_at eS_len (List.replicate m ((0, 0, 0) : St)) (p / 7) (p % 7) (by rw [List.length_replicate]; exact hq) h7
    rw [show p / 7 * 7 + p % 7 = p by omega] at hr
    rw [hr]
    have hg : (List.replicate m ((0, 0, 0) : St)).getD (p / 7) default = (0, 0, 0) := by
      rw [List.getD_eq_getElem?_getD, List.getElem?_replicate, if_pos hq]; rfl
    rw [hg, eS_zero]
    unfold Builtin.zeroCells
    rw [Array.toList_map, List.getElem?_map, Array.toList_range, List.getElem?_range (by simpa using hp)]
    simp only [Option.map_some]
    have h9 : p % 7 = 0 ∨ p % 7 = 1 ∨ p % 7 = 2 ∨ p % 7 = 3 ∨ p % 7 = 4 ∨ p % 7 = 5 ∨ p % 7 = 6 := by omega
    have hs : ∀ (v0 v1 v2 v3 v4 v5 v6 : Value), (#[v0, v1, v2, v3, v4, v5, v6] : Array Value).size = 7 := fun _ _ _ _ _ _ _ => rfl
    rw [hs]
    rcases h9 with e | e | e | e | e | e | e <;> rw [e] <;> rfl
  · rw [List.getElem?_eq_none (by unfold Builtin.zeroCells; simp; omega), List.getElem?_eq_none (by rw [hl]; omega)]
theorem setL_fill (S : List St) (i m : Nat) (h : i + m ≤ S.length) : setL (S.flatMap eS) (i * 7) ((List.replicate m ((0, 0, 0) : St)).flatMap eS) = (fillS S i (0, 0, 0) m).flatMap eS := by
  apply List.ext_getElem?
  intro p
  have hl : ((List.replicate m ((0, 0, 0) : St)).flatMap eS).length = m * 7 := by rw [fm_len eS_len, List.length_replicate]
  have hS : (S.flatMap eS).length = S.length * 7 := fm_len eS_len S
  have hF : ((fillS S i (0, 0, 0) m).flatMap eS).length = S.length * 7 := by rw [fm_len eS_len, fill_len]
  rw [setL_at _ _ _ _ (by rw [hl, hS]; omega), hl]
  by_cases hp : p < S.length * 7
  · have h7 : p % 7 < 7 := Nat.mod_lt _ (by omega)
    have hr := fm_at eS_len (fillS S i (0, 0, 0) m) (p / 7) (p % 7) (by rw [fill_len]; omega) h7
    rw [show p / 7 * 7 + p % 7 = p by omega] at hr
    rw [hr]
    have hf := fill_at S i (0, 0, 0) m h (p / 7)
    simp only [gS] at hf
    rw [hf]
    by_cases q : i * 7 ≤ p ∧ p < i * 7 + m * 7
    · rw [if_pos q, if_pos (by omega)]
      have h2 := fm_at eS_len (List.replicate m ((0, 0, 0) : St)) (p / 7 - i) (p % 7) (by rw [List.length_replicate]; omega) h7
      rw [show (p / 7 - i) * 7 + p % 7 = p - i * 7 by omega] at h2
      rw [h2, List.getD_eq_getElem?_getD, List.getElem?_replicate, if_pos (by omega)]; rfl
    · rw [if_neg q, if_neg (by omega)]
      have h2 := fm_at eS_len S (p / 7) (p % 7) (by omega) h7
      rw [show p / 7 * 7 + p % 7 = p by omega] at h2
      exact h2
  · rw [if_neg (by omega), List.getElem?_eq_none (by rw [hS]; omega), List.getElem?_eq_none (by rw [hF]; omega)]
theorem eS_one (s : St) : ∀ v ∈ eS s, v.oneCell' = true := fun v hv => by
  simp only [eS, List.mem_cons, List.not_mem_nil, or_false] at hv
  rcases hv with rfl | rfl | rfl | rfl | rfl | rfl | rfl <;> rfl
theorem zv_run {P : Program} {e : TypeId} {i0 : TypeInfo} {z : Value} (hi : P.info? e = some i0) (hz : i0.zero = some z) (w : World) : (zeroValue e).run P w = .ok z w := by
  simp [zeroValue, typeInfo, hi, hz, Result.andThen]
theorem clear_run {w : World} {base g n cap : Nat} {S : List St} (h : SKO w base (.slice (some ⟨g, 0, none⟩) n cap) S) (hn : S.length = n) (i m c : Nat) (hm : 0 < m) (him : i + m ≤ n) (ty : TypeId) :
    ∃ w', (Builtin.clear_ #[95] ty #[.slice (some ⟨g, i * 7, none⟩) m c]).run Tryd.prog w = .ok (.tuple #[]) w' ∧ SKO w' base (.slice (some ⟨g, 0, none⟩) n cap) (fillS S i (0, 0, 0) m) ∧ Chg (fun b => b = g) w w' := by
  obtain ⟨k1, k2⟩ := stored_list ((List.replicate m ((0, 0, 0) : St)).flatMap eS) (S.flatMap eS) (i * 7) w (by have := h; unfold SKO OwnE at this; rw [hn] at this; exact this)
  refine ⟨w.setCells g (i * 7) ((List.replicate m ((0, 0, 0) : St)).flatMap eS), ?_, ?_, k2⟩
  · have hl : ((List.replicate m ((0, 0, 0) : St)).flatMap eS).length = m * 7 := by rw [fm_len eS_len, List.length_replicate]
    have hcell : ∀ j, j < m * 7 → (w.cell? ⟨g, i * 7 + j, none⟩).isSome = true ∧ w.frozen? ⟨g, i * 7 + j, none⟩ = false := fun j hj => by
      have h7 : j % 7 < 7 := Nat.mod_lt _ (by omega)
      obtain ⟨q1, q2⟩ := OwnE.cell eS_len h hn (i := i + j / 7) (j := j % 7) (by omega) h7
      rw [show (i + j / 7) * 7 + j % 7 = i * 7 + j by omega] at q1 q2
      refine ⟨?_, q2⟩
      rw [q1, List.getElem?_eq_getElem (by rw [eS_len]; exact h7)]; rfl
    have hst := run_storeCells_cells (P := Tryd.prog) g (i * 7) ((List.replicate m ((0, 0, 0) : St)).flatMap eS) 0 w (by rw [hl, Nat.add_zero]; exact fun j hj => (hcell j hj).1) (by rw [hl, Nat.add_zero]; exact fun j hj => (hcell j hj).2)
      (fun v hv => by obtain ⟨s, _, hs⟩ := List.mem_flatMap.1 hv; exact eS_one s v hs)
    rw [Nat.add_zero, ← zero_cells] at hst
    rw [← zero_cells]
    obtain ⟨m', rfl⟩ : ∃ m', m = m' + 1 := ⟨m - 1, by omega⟩
    obtain ⟨i0, hi, hz, _⟩ := info_parts infoS
    have hv : ∀ w, (zeroValue 99).run Tryd.prog w = .ok (.agg #[.int .i64 0, .int .i64 0, .int .i64 0, .int .i64 0, .int .u64 0, .int .u64 0, .int .u64 0]) w := zv_run hi hz
    have hc : (Value.agg #[.int .i64 0, .int .i64 0, .int .i64 0, .int .i64 0, .int .u64 0, .int .u64 0, .int .u64 0]).cells = #[.int .i64 0, .int .i64 0, .int .i64 0, .int .i64 0, .int .u64 0, .int .u64 0, .int .u64 0] := by simp [go_sem]
    simp [Builtin.clear_, run_underlying Tryd.underlying95, hv, hc, hst]
  · unfold SKO OwnE
    rw [fill_len, hn, ← setL_fill S i m (by omega)]
    exact k1
theorem wp_clear_run {P : Program} {w w' : World} {o : Oper} {a : Act} {K : Act → World → Prop} {Q : Exit → Act → World → Prop} (s : Operand) (t : TypeId)
    (hop : o.op = Op.call { callee := Callee.builtin Builtin.clear, args := #[s], argTypes := #[t] }) (vs v : Value) (hs : a.eval s = vs)
    (hrun : (Builtin.clear_ #[t] o.type #[vs]).run P w = .ok v w') (h : K (a.put o.dst v) w') : Oper.wp P o a w K Q := by
  unfold Oper.wp
  simp [execOp, hop, resolve, invoke, builtin, hs, hrun, Result.andThen]
  exact h

set_option maxRecDepth 10000 in
set_option maxHeartbeats 1000000 in
theorem vac_no {w : World} (B : Nat) (ch ix cl mn : Int) (fr : Bool) (h : ¬ cl = -1) :
    Calls Tryd.prog 79 #[.pointer (some ⟨B, 0, none⟩), .agg #[.int .i64 ch, .int .i64 ix, .int .i64 cl, .int .i64 mn, .bool fr]] w fun e w' => e = .returned (.tuple #[]) ∧ Below w.heap.size w w' := by
  have hA := (Below.refl w.heap.size w).alloc (Nat.le_refl _) (.cells #[.int .i64 ch, .int .i64 ix, .int .i64 cl, .int .i64 mn, .bool fr] 62)
  have t6 : (cl == -1) = false := by rw [beq_eq_false_iff_ne]; exact h
  clear h
  go_enter Tryd.func79, Tryd.ntmps79
  go_wp2_with fail
  go_end0
  exact ⟨rfl, hA⟩
set_option maxRecDepth 10000 in
set_option maxHeartbeats 1000000 in
theorem vac_yes {w : World} {base B : Nat} {v : Value} {S : List St} (hI : IxAt w base B v S) (i m : Nat) (ix : Int) (fr : Bool) (h1 : 1 ≤ m) (h : i + m ≤ S.length) (hl : S.length ≤ 10000) :
    Calls Tryd.prog 79 #[.pointer (some ⟨B, 0, none⟩), .agg #[.int .i64 (i : Nat), .int .i64 ix, .int .i64 (-1), .int .i64 (m : Nat), .bool fr]] w fun e w' => e = .returned (.tuple #[]) ∧ IxAt w' base B v (fillS S i (0, 0, 0) m) ∧ Chg (fun k => v.ownBlock = some k) w w' := by
  have hA := (Below.refl w.heap.size w).alloc (Nat.le_refl _) (.cells #[.int .i64 (i : Nat), .int .i64 ix, .int .i64 (-1), .int .i64 (m : Nat), .bool fr] 62)
  have hI1 := hI.keep hA
  have xB := hI1.box.cell
  obtain ⟨nn, hnn⟩ : ∃ n, S.length = n := ⟨_, rfl⟩
  obtain ⟨g, cap, rfl, _, _, hcap⟩ := hI1.row.form (by omega)
  obtain ⟨w2, hrun, ho, hch⟩ := clear_run (w := (w.alloc (.cells #[.int .i64 (i : Nat), .int .i64 ix, .int .i64 (-1), .int .i64 (m : Nat), .bool fr] 62)).drew) hI1.row.drew rfl i m (cap - i) h1 h 0
  rw [hnn] at ho hI1 h hl hcap ⊢
  have hW1 : (w.alloc (.cells #[.int .i64 (i : Nat), .int .i64 ix, .int .i64 (-1), .int .i64 (m : Nat), .bool fr] 62)).drew.heap.size = w.heap.size + 1 := by simp [go_sem]
  obtain ⟨C, hC⟩ : ∃ C, w.heap.size = C := ⟨_, rfl⟩
  obtain ⟨p0, p2, p3⟩ : (w.alloc (.cells #[.int .i64 (i : Nat), .int .i64 ix, .int .i64 (-1), .int .i64 (m : Nat), .bool fr] 62)).cell? ⟨C, 0, none⟩ = some (.int .i64 ((i : Nat) : Int)) ∧ (w.alloc (.cells #[.int .i64 (i : Nat), .int .i64 ix, .int .i64 (-1), .int .i64 (m : Nat), .bool fr] 62)).cell? ⟨C, 2, none⟩ = some (.int .i64 (-1)) ∧ (w.alloc (.cells #[.int .i64 (i : Nat), .int .i64 ix, .int .i64 (-1), .int .i64 (m : Nat), .bool fr] 62)).cell? ⟨C, 3, none⟩ = some (.int .i64 ((m : Nat) : Int)) := by
    rw [← hC]; refine ⟨?_, ?_, ?_⟩ <;> simp [go_sem]
  obtain ⟨e, he⟩ : ∃ e, e = i + m := ⟨_, rfl⟩
  have t6 : IntKind.i64.wrap (((i : Nat) : Int) + ((m : Nat) : Int)) = ((e : Nat) : Int) := by rw [IntKind.wrap_i64]; omega
  have e1 : e ≤ cap := by omega
  have e2 : i ≤ e := by omega
  have e3 : ¬ cap = i := by omega
  have e4 : e - i = m := by omega
  replace he := Lib.hid he
  have hrow := hI1.row
  have hgB : ∀ k, Value.ownBlock (.slice (some ⟨g, 0, none⟩) nn cap) = some k → k ≠ B := hI1.ne
  clear hI
  go_enter Tryd.func79, Tryd.ntmps79
  go_wp2_with fail
  (try simp only [hC])
  generalize (w.alloc (.cells #[.int .i64 (i : Nat), .int .i64 ix, .int .i64 (-1), .int .i64 (m : Nat), .bool fr] 62)) = W1 at *
  clear hC
  refine wp_region_tail (S := (fun w' => w' = W1.drew)) (n := 12) (by kernel_rfl) ?_ (fun hHeld hInv => ?_) (by decide)
  · (try dsimp only)
    all_goals rfl
  refine takeUS 0 hInv ?_; clear hInv; intro hInv
  refine takeUS 1 hInv ?_; clear hInv; intro hInv
  refine takeUS 2 hInv ?_; clear hInv; intro hInv
  refine takeUS 3 hInv ?_; clear hInv; intro hInv
  refine takeUS 4 hInv ?_; clear hInv; intro hInv
  refine takeUS 5 hInv ?_; clear hInv; intro hInv
  refine takeUS 6 hInv ?_; clear hInv; intro hInv
  refine takeUS 7 hInv ?_; clear hInv; intro hInv
  refine takeUS 8 hInv ?_; clear hInv; intro hInv
  refine takeUS 9 hInv ?_; clear hInv; intro hInv
  refine takeUS 10 hInv ?_; clear hInv; intro hInv
  refine takeUS 11 hInv ?_; clear hInv; intro hInv
  refine lastS 12 rfl (by decide) (by kernel_rfl) (fun K hK => ?_)
  rw [if_pos (by rfl)]
  refine wp_clear_run _ _ rfl _ _ rfl hrun ?_
  refine hK.out _ _ ?_
  clear hK K
  try simp only [Act.put, List.setIfInBounds_toArray, List.set_cons_zero, List.set_cons_succ]
  refine wpAnyS_done (by kernel_rfl) ?_ _
  go_wp2_with fail
  go_end0
  refine ⟨rfl, ⟨(hch.block B hI1.box.lt (fun q => ?_)).trans hI1.box, ho, hI1.lo⟩, (Chg.of_below _ hA.drew).trans hch (fun j q => .inl (by rw [q]; rfl))⟩
  exact hgB g rfl q.symm
theorem vac_any {w : World} {base B : Nat} {v : Value} {S : List St} (hI : IxAt w base B v S) (ch ix cl mn : Int) (fr : Bool) (h : cl = -1 → 0 ≤ ch ∧ 1 ≤ mn ∧ ch + mn ≤ S.length) (hl : S.length ≤ 10000) :
    Calls Tryd.prog 79 #[.pointer (some ⟨B, 0, none⟩), .agg #[.int .i64 ch, .int .i64 ix, .int .i64 cl, .int .i64 mn, .bool fr]] w fun e w' => e = .returned (.tuple #[]) ∧ IxAt w' base B v (vacS S ch cl mn) ∧ Chg (fun k => v.ownBlock = some k) w w' := by
  unfold vacS
  by_cases hc : cl = -1
  · subst hc
    obtain ⟨h1, h2, h3⟩ := h rfl
    obtain ⟨i, rfl⟩ : ∃ i : Nat, ch = (i : Int) := ⟨ch.toNat, by omega⟩
    obtain ⟨m, rfl⟩ : ∃ m : Nat, mn = (m : Int) := ⟨mn.toNat, by omega⟩
    rw [if_pos rfl, Int.toNat_natCast, Int.toNat_natCast]
    exact vac_yes hI i m ix fr (by omega) (by omega) hl
  · rw [if_neg hc]
    refine (vac_no B ch ix cl mn fr hc).mono ?_
    rintro e w2 ⟨rfl, hb⟩
    exact ⟨rfl, hI.keep hb, Chg.of_below _ hb⟩
end Go.Proofs.YtnjifmecaeagaaaDoor
end
section
set_option linter.unusedVariables false
set_option linter.unusedSimpArgs false
namespace Go.Proofs.YtnjifmecaeagaaaDoor
open Go.RowKit Go.ChangeShapes Go.WideShapes Go.Deep

theorem andNot_clr {a b : Nat} (ha : a < 18446744073709551616) (hb : b < 18446744073709551616) : bits .andNot .u64 (a : Int) (b : Int) = (clrN a b : Nat) := by
  rw [u64_andNot_nat a b ha hb]
  congr 1
  apply Nat.eq_of_testBit_eq; intro i
  unfold clrN
  rw [Nat.testBit_and, Nat.testBit_xor, Nat.testBit_and, show 18446744073709551615 - b = 2 ^ 64 - (b + 1) by omega, Nat.testBit_two_pow_sub_succ (by omega)]
  by_cases hi : i < 64
  · rw [decide_eq_true hi]; cases a.testBit i <;> cases b.testBit i <;> rfl
  · have h1 : a.testBit i = false := Nat.testBit_lt_two_pow (Nat.lt_of_lt_of_le ha (Nat.pow_le_pow_right (n := 2) (by omega) (by omega : 64 ≤ i)))
    rw [h1]; rfl
/-- what a bit that is there tells -/
theorem bit_there {S : List St} (h : SOk S) {ch ix cl mn : Int} (hb : ¬ bitS S ch ix cl mn = 0) : ∃ i : Nat, ch = (i : Int) ∧ i < S.length ∧ bitS S ch ix cl mn < 256 ∧ (gS S i).2.1 < 256 ∧ (gS S i).2.2 < 256 ∧ (cl = -1 → 0 ≤ ch ∧ 1 ≤ mn ∧ ch + mn ≤ S.length) := by
  by_cases h0 : 0 ≤ ch ∧ ch < S.length
  · obtain ⟨i, rfl⟩ : ∃ i : Nat, ch = (i : Int) := ⟨ch.toNat, by omega⟩
    have hi : i < S.length := by omega
    have hO := h.each i hi
    refine ⟨i, rfl, hi, ?_⟩
    have hp := pow_mn (cN (gS S i).1)
    have hE : bitS S (i : Nat) ix cl mn = (if kN (gS S i).1 = 1 ∧ cl = (cN (gS S i).1 : Nat) ∧ 0 ≤ ix ∧ ix < (mnN (cN (gS S i).1) : Nat) then 2 ^ ix.toNat else if kN (gS S i).1 = 2 ∧ cl = -1 ∧ ix = 0 ∧ mn = (mN (gS S i).1 : Nat) then 1 else 0) := by
      unfold bitS
      rw [if_pos h0, Int.toNat_natCast]
    by_cases c1 : kN (gS S i).1 = 1 ∧ cl = (cN (gS S i).1 : Nat) ∧ 0 ≤ ix ∧ ix < (mnN (cN (gS S i).1) : Nat)
    · obtain ⟨r1, r2, r3⟩ := hO.run c1.1
      refine ⟨?_, by omega, by omega, fun q => by omega⟩
      rw [hE, if_pos c1]
      have : 2 ^ ix.toNat < 2 ^ mnN (cN (gS S i).1) := Nat.pow_lt_pow_right (by omega) (by omega)
      omega
    · by_cases c2 : kN (gS S i).1 = 2 ∧ cl = -1 ∧ ix = 0 ∧ mn = (mN (gS S i).1 : Nat)
      · have hh := hO.huge c2.1
        obtain ⟨m1, m2⟩ := huge_many h hi c2.1
        refine ⟨?_, by omega, by omega, fun q => by omega⟩
        rw [hE, if_neg c1, if_pos c2]; omega
      · exact absurd (by rw [hE, if_neg c1, if_neg c2]) hb
  · exact absurd (by unfold bitS; rw [if_neg h0]) hb
theorem IxAt.set {w : World} {base B g nn cap : Nat} {S : List St} (h : IxAt w base B (.slice (some ⟨g, 0, none⟩) nn cap) S) (hn : S.length = nn) {i j : Nat} (hi : i < nn) (hj : j < 7) {s : St} {u : Value} (he : eS s = (eS (gS S i)).set j u) :
    IxAt (w.setCell ⟨g, i * 7 + j, none⟩ u) base B (.slice (some ⟨g, 0, none⟩) nn cap) (S.set i s) ∧ Chg (fun k => k = g) w (w.setCell ⟨g, i * 7 + j, none⟩ u) := by
  have hc : Chg (fun k => k = g) w (w.setCell ⟨g, i * 7 + j, none⟩ u) := Chg.setCell (S := fun k => k = g) w g _ _ rfl
  exact ⟨⟨(hc.block B h.box.lt (fun q => h.ne g rfl q.symm)).trans h.box, OwnE.set eS_len h.row hn hi hj he, h.lo⟩, hc⟩

set_option maxRecDepth 10000 in
set_option maxHeartbeats 1000000 in
theorem free_any {w : World} {base B : Nat} {v : Value} {S : List St} (hI : IxAt w base B v S) (hS : SOk S) (ch ix cl mn : Int) (fr : Bool) (hl : S.length ≤ 10000) (hw : Lw w) :
    Calls Tryd.prog 45 #[.pointer (some ⟨B, 0, none⟩), .agg #[.int .i64 ch, .int .i64 ix, .int .i64 cl, .int .i64 mn, .bool fr]] w fun e w' => e = .returned (.bool (freeS S ch ix cl mn).1) ∧ IxAt w' base B v (freeS S ch ix cl mn).2 ∧ Chg (fun k => v.ownBlock = some k) w w' := by
  have hA := (Below.refl w.heap.size w).alloc (Nat.le_refl _) (.cells #[.int .i64 ch, .int .i64 ix, .int .i64 cl, .int .i64 mn, .bool fr] 62)
  have hI1 := hI.keep hA
  have hBit := ixBit_any hI1 ch ix cl mn fr hl (hw.keep hA)
  obtain ⟨C, hC⟩ : ∃ C, w.heap.size = C := ⟨_, rfl⟩
  obtain ⟨p0, p1, p2, p3, p4⟩ : (w.alloc (.cells #[.int .i64 ch, .int .i64 ix, .int .i64 cl, .int .i64 mn, .bool fr] 62)).cell? ⟨C, 0, none⟩ = some (.int .i64 ch) ∧ (w.alloc (.cells #[.int .i64 ch, .int .i64 ix, .int .i64 cl, .int .i64 mn, .bool fr] 62)).cell? ⟨C, 1, none⟩ = some (.int .i64 ix) ∧ (w.alloc (.cells #[.int .i64 ch, .int .i64 ix, .int .i64 cl, .int .i64 mn, .bool fr] 62)).cell? ⟨C, 2, none⟩ = some (.int .i64 cl) ∧ (w.alloc (.cells #[.int .i64 ch, .int .i64 ix, .int .i64 cl, .int .i64 mn, .bool fr] 62)).cell? ⟨C, 3, none⟩ = some (.int .i64 mn) ∧ (w.alloc (.cells #[.int .i64 ch, .int .i64 ix, .int .i64 cl, .int .i64 mn, .bool fr] 62)).cell? ⟨C, 4, none⟩ = some (.bool fr) := by
    rw [← hC]; refine ⟨?_, ?_, ?_, ?_, ?_⟩ <;> simp [go_sem]
  have hFr : freeS S ch ix cl mn = (if bitS S ch ix cl mn = 0 ∨ (gS S ch.toNat).2.1 &&& bitS S ch ix cl mn = 0 then (false, S) else (true, vacS (S.set ch.toNat ((gS S ch.toNat).1, clrN (gS S ch.toNat).2.1 (bitS S ch ix cl mn), (gS S ch.toNat).2.2)) ch cl mn)) := rfl
  have hBt := bit_there hS (ch := ch) (ix := ix) (cl := cl) (mn := mn)
  generalize freeS S ch ix cl mn = r at *
  generalize bitS S ch ix cl mn = bt at *
  clear hS hw
  by_cases b0 : bt = 0
  · have t1 : (((bt : Nat) : Int) == 0) = true := by rw [beq_iff_eq]; omega
    rw [if_pos (.inl b0)] at hFr
    subst hFr
    clear hBt b0 hl
    go_enter Tryd.func45, Tryd.ntmps45
    go_wp2_with fail
    (try simp only [hC])
    generalize (w.alloc (.cells #[.int .i64 ch, .int .i64 ix, .int .i64 cl, .int .i64 mn, .bool fr] 62)) = W1 at *
    refine hBit.mono ?_
    rintro e w2 ⟨rfl, hb2⟩
    have hI2 := hI1.keep hb2
    have hA2 := hA.trans (hb2.mono hA.size)
    clear hBit
    go_wp2_with fail
    refine wp_region_held_drew (S := (fun w' => w' = w2.drew)) (by kernel_rfl) ?_ (fun hHeld => ?_)
    · (try dsimp only)
      all_goals rfl
    refine takeU 0 ?_
    refine takeU 1 ?_
    refine takeU 2 ?_
    refine idleQ 3 ?_
    refine idleQ 4 ?_
    refine idleQ 5 ?_
    refine idleQ 6 ?_
    refine idleQ 7 ?_
    refine idleQ 8 ?_
    refine idleQ 9 ?_
    refine idleQ 10 ?_
    refine idleQ 11 ?_
    refine idleQ 12 ?_
    refine idleQ 13 ?_
    refine idleQ 14 ?_
    refine takeU 15 ?_
    refine wpAnyH_done (by kernel_rfl) ?_ _
    go_wp2_with fail
    go_ret
    exact ⟨rfl, ⟨hI2.box, hI2.row, hI2.lo⟩, Chg.of_below _ hA2.drew⟩
  · obtain ⟨i, rfl, hi, bt9, lv9, tk9, hcl⟩ := hBt b0
    clear hBt
    rw [Int.toNat_natCast] at hFr
    have t1 : (((bt : Nat) : Int) == 0) = false := by rw [beq_eq_false_iff_ne]; omega
    obtain ⟨nn, hnn⟩ : ∃ n, S.length = n := ⟨_, rfl⟩
    obtain ⟨g, cap, rfl, hbg, hgl, hcap⟩ := hI.row.form (by omega)
    rw [hnn] at hi hcl hI hI1 hcap hl ⊢
    generalize hs : gS S i = s at *
    obtain ⟨x, lv, tk⟩ := s
    simp only [] at hFr lv9 tk9
    have t2 : bits .and .u64 ((lv : Nat) : Int) ((bt : Nat) : Int) = ((lv &&& bt : Nat) : Int) := u64_and_nat _ _ (by omega) (by omega)
    have i1 : decide (((i : Nat) : Int) < 0) = false := decide_eq_false (by omega)
    have i2 : ((i : Nat) : Int) < (nn : Int) := by omega
    by_cases a0 : lv &&& bt = 0
    · rw [if_pos (.inr a0)] at hFr
      subst hFr
      rw [a0] at t2
      clear hcl b0 a0
      go_enter Tryd.func45, Tryd.ntmps45
      go_wp2_with fail
      (try simp only [hC])
      generalize (w.alloc (.cells #[.int .i64 (i : Nat), .int .i64 ix, .int .i64 cl, .int .i64 mn, .bool fr] 62)) = W1 at *
      refine hBit.mono ?_
      rintro e w2 ⟨rfl, hb2⟩
      have hI2 := hI1.keep hb2
      have hA2 := hA.trans (hb2.mono hA.size)
      have hc6 := (OwnE.cell eS_len hI2.row hnn (i := i) (j := 5) hi (by omega)).1
      rw [show S.getD i default = (x, lv, tk) from hs] at hc6
      replace hc6 : w2.cell? ⟨g, i * 7 + 5, none⟩ = some (.int .u64 (lv : Nat)) := hc6
      have xB := hI2.box.cell
      have q0 := cellK5 p0 hb2
      clear hBit p0 p1 p2 p3 p4
      go_wp2_with fail
      refine wp_region_held_drew (S := (fun w' => w' = w2.drew)) (by kernel_rfl) ?_ (fun hHeld => ?_)
      · (try dsimp only)
        all_goals rfl
      refine takeU 0 ?_
      refine takeU 1 ?_
      refine takeU 2 ?_
      refine takeU 3 ?_
      refine takeU 4 ?_
      refine takeU 5 ?_
      refine takeU 6 ?_
      refine takeU 7 ?_
      refine takeU 8 ?_
      refine takeU 9 ?_
      refine takeU 10 ?_
      refine takeU 11 ?_
      refine takeU 12 ?_
      refine takeU 13 ?_
      refine takeU 14 ?_
      refine takeU 15 ?_
      refine wpAnyH_done (by kernel_rfl) ?_ _
      go_wp2_with fail
      go_ret
      exact ⟨rfl, ⟨hI2.box, hI2.row, hI2.lo⟩, Chg.of_below _ hA2.drew⟩
    · have t3 : ((((lv &&& bt : Nat) : Int)) == 0) = false := by rw [beq_eq_false_iff_ne]; omega
      rw [if_neg (fun q => q.elim b0 a0)] at hFr
      have t4 : bits .andNot .u64 ((lv : Nat) : Int) ((bt : Nat) : Int) = (clrN lv bt : Nat) := andNot_clr (by omega) (by omega)
      subst hFr
      generalize clrN lv bt = nv at *
      generalize lv &&& bt = an at *
      clear b0 a0
      go_enter Tryd.func45, Tryd.ntmps45
      go_wp2_with fail
      (try simp only [hC])
      generalize (w.alloc (.cells #[.int .i64 (i : Nat), .int .i64 ix, .int .i64 cl, .int .i64 mn, .bool fr] 62)) = W1 at *
      refine hBit.mono ?_
      rintro e w2 ⟨rfl, hb2⟩
      have hI2 := hI1.keep hb2
      have hA2 := hA.trans (hb2.mono hA.size)
      obtain ⟨hc6, hf6⟩ := OwnE.cell eS_len hI2.row hnn (i := i) (j := 5) hi (by omega)
      rw [show S.getD i default = (x, lv, tk) from hs] at hc6
      replace hc6 : w2.cell? ⟨g, i * 7 + 5, none⟩ = some (.int .u64 (lv : Nat)) := hc6
      have xB := hI2.box.cell
      have q0 := cellK5 p0 hb2
      have q1 := cellK5 p1 hb2
      have q2 := cellK5 p2 hb2
      have q3 := cellK5 p3 hb2
      have q4 := cellK5 p4 hb2
      obtain ⟨hI3, hC3⟩ := IxAt.set (w := w2.drew.drew) (s := (x, nv, tk)) ⟨hI2.box, hI2.row, hI2.lo⟩ hnn hi (j := 5) (by omega) (u := .int .u64 (nv : Nat)) (by rw [hs]; rfl)
      have hgC : ¬ C = g := by omega
      obtain ⟨z0, z1, z2, z3, z4⟩ : (w2.drew.drew.setCell ⟨g, i * 7 + 5, none⟩ (.int .u64 (nv : Nat))).cell? ⟨C, 0, none⟩ = some (.int .i64 (i : Nat)) ∧ (w2.drew.drew.setCell ⟨g, i * 7 + 5, none⟩ (.int .u64 (nv : Nat))).cell? ⟨C, 1, none⟩ = some (.int .i64 ix) ∧ (w2.drew.drew.setCell ⟨g, i * 7 + 5, none⟩ (.int .u64 (nv : Nat))).cell? ⟨C, 2, none⟩ = some (.int .i64 cl) ∧ (w2.drew.drew.setCell ⟨g, i * 7 + 5, none⟩ (.int .u64 (nv : Nat))).cell? ⟨C, 3, none⟩ = some (.int .i64 mn) ∧ (w2.drew.drew.setCell ⟨g, i * 7 + 5, none⟩ (.int .u64 (nv : Nat))).cell? ⟨C, 4, none⟩ = some (.bool fr) := by
        exact ⟨(World.cell?_of_block (hC3.block C (World.block_lt_of_cell? _ _ q0) hgC)).trans q0, (World.cell?_of_block (hC3.block C (World.block_lt_of_cell? _ _ q0) hgC)).trans q1, (World.cell?_of_block (hC3.block C (World.block_lt_of_cell? _ _ q0) hgC)).trans q2, (World.cell?_of_block (hC3.block C (World.block_lt_of_cell? _ _ q0) hgC)).trans q3, (World.cell?_of_block (hC3.block C (World.block_lt_of_cell? _ _ q0) hgC)).trans q4⟩
      have hV := vac_any hI3 (i : Nat) ix cl mn fr (by rw [List.length_set, hnn]; exact hcl) (by rw [List.length_set, hnn]; exact hl)
      clear hBit p0 p1 p2 p3 p4
      have eW : w2.drew.drew.setCell ⟨g, i * 7 + 5, none⟩ (.int .u64 (nv : Nat)) = (w2.setCell ⟨g, i * 7 + 5, none⟩ (.int .u64 (nv : Nat))).drew.drew := rfl
      rw [eW] at hV hC3 z0 z1 z2 z3 z4
      clear eW hI3
      go_wp2_with fail
      refine wp_region_held_drew (S := (fun w' => w' = w2.drew)) (by kernel_rfl) ?_ (fun hHeld => ?_)
      · (try dsimp only)
        all_goals rfl
      refine takeU 0 ?_
      refine takeU 1 ?_
      refine takeU 2 ?_
      refine takeU 3 ?_
      refine takeU 4 ?_
      refine takeU 5 ?_
      refine takeU 6 ?_
      refine takeU 7 ?_
      refine takeU 8 ?_
      refine takeU 9 ?_
      refine takeU 10 ?_
      refine takeU 11 ?_
      refine takeU 12 ?_
      refine takeU 13 ?_
      refine takeU 14 ?_
      refine takeU 15 ?_
      refine wpAnyH_done (by kernel_rfl) ?_ _
      go_wp2_with fail
      refine wp_region_tail (S := (fun w' => w' = w2.drew.drew)) (n := 13) (by kernel_rfl) ?_ (fun hHeld hInv => ?_) (by decide)
      · (try dsimp only)
        all_goals rfl
      refine takeUS 0 hInv ?_; clear hInv; intro hInv
      refine takeUS 1 hInv ?_; clear hInv; intro hInv
      refine takeUS 2 hInv ?_; clear hInv; intro hInv
      refine takeUS 3 hInv ?_; clear hInv; intro hInv
      refine takeUS 4 hInv ?_; clear hInv; intro hInv
      refine takeUS 5 hInv ?_; clear hInv; intro hInv
      refine takeUS 6 hInv ?_; clear hInv; intro hInv
      refine takeUS 7 hInv ?_; clear hInv; intro hInv
      refine takeUS 8 hInv ?_; clear hInv; intro hInv
      refine takeUS 9 hInv ?_; clear hInv; intro hInv
      refine takeUS 10 hInv ?_; clear hInv; intro hInv
      refine takeUS 11 hInv ?_; clear hInv; intro hInv
      refine takeUS 12 hInv ?_; clear hInv; intro hInv
      refine lastS 13 rfl (by decide) (by kernel_rfl) (fun K hK => ?_)
      go_simp
      refine hK.out _ _ ?_
      clear hK K
      try simp only [Act.put, List.setIfInBounds_toArray, List.set_cons_zero, List.set_cons_succ]
      refine wpAnyS_done (by kernel_rfl) ?_ _
      go_wp2_with fail
      refine hV.mono ?_
      rintro e w5 ⟨rfl, hI5, hC5⟩
      go_wp2_with fail
      go_ret
      exact ⟨rfl, hI5, ((Chg.of_below _ hA2.drew.drew).trans hC3 (fun j q => .inl (by rw [q]; rfl))).trans hC5 (fun j q => .inl q)⟩

set_option maxRecDepth 10000 in
set_option maxHeartbeats 1000000 in
theorem drop_any {w : World} {base B : Nat} {v : Value} {S : List St} (hI : IxAt w base B v S) (hS : SOk S) (ch ix cl mn : Int) (fr : Bool) (hl : S.length ≤ 10000) (hw : Lw w) :
    Calls Tryd.prog 41 #[.pointer (some ⟨B, 0, none⟩), .agg #[.int .i64 ch, .int .i64 ix, .int .i64 cl, .int .i64 mn, .bool fr]] w fun e w' => e = .returned (.bool (dropS S ch ix cl mn).1) ∧ IxAt w' base B v (dropS S ch ix cl mn).2 ∧ Chg (fun k => v.ownBlock = some k) w w' := by
  have hA := (Below.refl w.heap.size w).alloc (Nat.le_refl _) (.cells #[.int .i64 ch, .int .i64 ix, .int .i64 cl, .int .i64 mn, .bool fr] 62)
  have hI1 := hI.keep hA
  have hBit := ixBit_any hI1 ch ix cl mn fr hl (hw.keep hA)
  obtain ⟨C, hC⟩ : ∃ C, w.heap.size = C := ⟨_, rfl⟩
  obtain ⟨p0, p1, p2, p3, p4⟩ : (w.alloc (.cells #[.int .i64 ch, .int .i64 ix, .int .i64 cl, .int .i64 mn, .bool fr] 62)).cell? ⟨C, 0, none⟩ = some (.int .i64 ch) ∧ (w.alloc (.cells #[.int .i64 ch, .int .i64 ix, .int .i64 cl, .int .i64 mn, .bool fr] 62)).cell? ⟨C, 1, none⟩ = some (.int .i64 ix) ∧ (w.alloc (.cells #[.int .i64 ch, .int .i64 ix, .int .i64 cl, .int .i64 mn, .bool fr] 62)).cell? ⟨C, 2, none⟩ = some (.int .i64 cl) ∧ (w.alloc (.cells #[.int .i64 ch, .int .i64 ix, .int .i64 cl, .int .i64 mn, .bool fr] 62)).cell? ⟨C, 3, none⟩ = some (.int .i64 mn) ∧ (w.alloc (.cells #[.int .i64 ch, .int .i64 ix, .int .i64 cl, .int .i64 mn, .bool fr] 62)).cell? ⟨C, 4, none⟩ = some (.bool fr) := by
    rw [← hC]; refine ⟨?_, ?_, ?_, ?_, ?_⟩ <;> simp [go_sem]
  have hFr : dropS S ch ix cl mn = (if bitS S ch ix cl mn = 0 ∨ (gS S ch.toNat).2.2 &&& bitS S ch ix cl mn = 0 then (false, S) else (true, vacS (S.set ch.toNat ((gS S ch.toNat).1, (gS S ch.toNat).2.1, clrN (gS S ch.toNat).2.2 (bitS S ch ix cl mn))) ch cl mn)) := rfl
  have hBt := bit_there hS (ch := ch) (ix := ix) (cl := cl) (mn := mn)
  generalize dropS S ch ix cl mn = r at *
  generalize bitS S ch ix cl mn = bt at *
  clear hS hw
  by_cases b0 : bt = 0
  · have t1 : (((bt : Nat) : Int) == 0) = true := by rw [beq_iff_eq]; omega
    rw [if_pos (.inl b0)] at hFr
    subst hFr
    clear hBt b0 hl
    go_enter Tryd.func41, Tryd.ntmps41
    go_wp2_with fail
    (try simp only [hC])
    generalize (w.alloc (.cells #[.int .i64 ch, .int .i64 ix, .int .i64 cl, .int .i64 mn, .bool fr] 62)) = W1 at *
    refine hBit.mono ?_
    rintro e w2 ⟨rfl, hb2⟩
    have hI2 := hI1.keep hb2
    have hA2 := hA.trans (hb2.mono hA.size)
    clear hBit
    go_wp2_with fail
    refine wp_region_held_drew (S := (fun w' => w' = w2.drew)) (by kernel_rfl) ?_ (fun hHeld => ?_)
    · (try dsimp only)
      all_goals rfl
    refine takeU 0 ?_
    refine takeU 1 ?_
    refine takeU 2 ?_
    refine idleQ 3 ?_
    refine idleQ 4 ?_
    refine idleQ 5 ?_
    refine idleQ 6 ?_
    refine idleQ 7 ?_
    refine idleQ 8 ?_
    refine idleQ 9 ?_
    refine idleQ 10 ?_
    refine idleQ 11 ?_
    refine idleQ 12 ?_
    refine idleQ 13 ?_
    refine idleQ 14 ?_
    refine takeU 15 ?_
    refine wpAnyH_done (by kernel_rfl) ?_ _
    go_wp2_with fail
    go_ret
    exact ⟨rfl, ⟨hI2.box, hI2.row, hI2.lo⟩, Chg.of_below _ hA2.drew⟩
  · obtain ⟨i, rfl, hi, bt9, lv9, tk9, hcl⟩ := hBt b0
    clear hBt
    rw [Int.toNat_natCast] at hFr
    have t1 : (((bt : Nat) : Int) == 0) = false := by rw [beq_eq_false_iff_ne]; omega
    obtain ⟨nn, hnn⟩ : ∃ n, S.length = n := ⟨_, rfl⟩
    obtain ⟨g, cap, rfl, hbg, hgl, hcap⟩ := hI.row.form (by omega)
    rw [hnn] at hi hcl hI hI1 hcap hl ⊢
    generalize hs : gS S i = s at *
    obtain ⟨x, lv, tk⟩ := s
    simp only [] at hFr lv9 tk9
    have t2 : bits .and .u64 ((tk : Nat) : Int) ((bt : Nat) : Int) = ((tk &&& bt : Nat) : Int) := u64_and_nat _ _ (by omega) (by omega)
    have i1 : decide (((i : Nat) : Int) < 0) = false := decide_eq_false (by omega)
    have i2 : ((i : Nat) : Int) < (nn : Int) := by omega
    by_cases a0 : tk &&& bt = 0
    · rw [if_pos (.inr a0)] at hFr
      subst hFr
      rw [a0] at t2
      clear hcl b0 a0
      go_enter Tryd.func41, Tryd.ntmps41
      go_wp2_with fail
      (try simp only [hC])
      generalize (w.alloc (.cells #[.int .i64 (i : Nat), .int .i64 ix, .int .i64 cl, .int .i64 mn, .bool fr] 62)) = W1 at *
      refine hBit.mono ?_
      rintro e w2 ⟨rfl, hb2⟩
      have hI2 := hI1.keep hb2
      have hA2 := hA.trans (hb2.mono hA.size)
      have hc6 := (OwnE.cell eS_len hI2.row hnn (i := i) (j := 6) hi (by omega)).1
      rw [show S.getD i default = (x, lv, tk) from hs] at hc6
      replace hc6 : w2.cell? ⟨g, i * 7 + 6, none⟩ = some (.int .u64 (tk : Nat)) := hc6
      have xB := hI2.box.cell
      have q0 := cellK5 p0 hb2
      clear hBit p0 p1 p2 p3 p4
      go_wp2_with fail
      refine wp_region_held_drew (S := (fun w' => w' = w2.drew)) (by kernel_rfl) ?_ (fun hHeld => ?_)
      · (try dsimp only)
        all_goals rfl
      refine takeU 0 ?_
      refine takeU 1 ?_
      refine takeU 2 ?_
      refine takeU 3 ?_
      refine takeU 4 ?_
      refine takeU 5 ?_
      refine takeU 6 ?_
      refine takeU 7 ?_
      refine takeU 8 ?_
      refine takeU 9 ?_
      refine takeU 10 ?_
      refine takeU 11 ?_
      refine takeU 12 ?_
      refine takeU 13 ?_
      refine takeU 14 ?_
      refine takeU 15 ?_
      refine wpAnyH_done (by kernel_rfl) ?_ _
      go_wp2_with fail
      go_ret
      exact ⟨rfl, ⟨hI2.box, hI2.row, hI2.lo⟩, Chg.of_below _ hA2.drew⟩
    · have t3 : ((((tk &&& bt : Nat) : Int)) == 0) = false := by rw [beq_eq_false_iff_ne]; omega
      rw [if_neg (fun q => q.elim b0 a0)] at hFr
      have t4 : bits .andNot .u64 ((tk : Nat) : Int) ((bt : Nat) : Int) = (clrN tk bt : Nat) := andNot_clr (by omega) (by omega)
      subst hFr
      generalize clrN tk bt = nv at *
      generalize tk &&& bt = an at *
      clear b0 a0
      go_enter Tryd.func41, Tryd.ntmps41
      go_wp2_with fail
      (try simp only [hC])
      generalize (w.alloc (.cells #[.int .i64 (i : Nat), .int .i64 ix, .int .i64 cl, .int .i64 mn, .bool fr] 62)) = W1 at *
      refine hBit.mono ?_
      rintro e w2 ⟨rfl, hb2⟩
      have hI2 := hI1.keep hb2
      have hA2 := hA.trans (hb2.mono hA.size)
      obtain ⟨hc6, hf6⟩ := OwnE.cell eS_len hI2.row hnn (i := i) (j := 6) hi (by omega)
      rw [show S.getD i default = (x, lv, tk) from hs] at hc6
      replace hc6 : w2.cell? ⟨g, i * 7 + 6, none⟩ = some (.int .u64 (tk : Nat)) := hc6
      have xB := hI2.box.cell
      have q0 := cellK5 p0 hb2
      have q1 := cellK5 p1 hb2
      have q2 := cellK5 p2 hb2
      have q3 := cellK5 p3 hb2
      have q4 := cellK5 p4 hb2
      obtain ⟨hI3, hC3⟩ := IxAt.set (w := w2.drew.drew) (s := (x, lv, nv)) ⟨hI2.box, hI2.row, hI2.lo⟩ hnn hi (j := 6) (by omega) (u := .int .u64 (nv : Nat)) (by rw [hs]; rfl)
      have hgC : ¬ C = g := by omega
      obtain ⟨z0, z1, z2, z3, z4⟩ : (w2.drew.drew.setCell ⟨g, i * 7 + 6, none⟩ (.int .u64 (nv : Nat))).cell? ⟨C, 0, none⟩ = some (.int .i64 (i : Nat)) ∧ (w2.drew.drew.setCell ⟨g, i * 7 + 6, none⟩ (.int .u64 (nv : Nat))).cell? ⟨C, 1, none⟩ = some (.int .i64 ix) ∧ (w2.drew.drew.setCell ⟨g, i * 7 + 6, none⟩ (.int .u64 (nv : Nat))).cell? ⟨C, 2, none⟩ = some (.int .i64 cl) ∧ (w2.drew.drew.setCell ⟨g, i * 7 + 6, none⟩ (.int .u64 (nv : Nat))).cell? ⟨C, 3, none⟩ = some (.int .i64 mn) ∧ (w2.drew.drew.setCell ⟨g, i * 7 + 6, none⟩ (.int .u64 (nv : Nat))).cell? ⟨C, 4, none⟩ = some (.bool fr) := by
        exact ⟨(World.cell?_of_block (hC3.block C (World.block_lt_of_cell? _ _ q0) hgC)).trans q0, (World.cell?_of_block (hC3.block C (World.block_lt_of_cell? _ _ q0) hgC)).trans q1, (World.cell?_of_block (hC3.block C (World.block_lt_of_cell? _ _ q0) hgC)).trans q2, (World.cell?_of_block (hC3.block C (World.block_lt_of_cell? _ _ q0) hgC)).trans q3, (World.cell?_of_block (hC3.block C (World.block_lt_of_cell? _ _ q0) hgC)).trans q4⟩
      have hV := vac_any hI3 (i : Nat) ix cl mn fr (by rw [List.length_set, hnn]; exact hcl) (by rw [List.length_set, hnn]; exact hl)
      clear hBit p0 p1 p2 p3 p4
      have eW : w2.drew.drew.setCell ⟨g, i * 7 + 6, none⟩ (.int .u64 (nv : Nat)) = (w2.setCell ⟨g, i * 7 + 6, none⟩ (.int .u64 (nv : Nat))).drew.drew := rfl
      rw [eW] at hV hC3 z0 z1 z2 z3 z4
      clear eW hI3
      go_wp2_with fail
      refine wp_region_held_drew (S := (fun w' => w' = w2.drew)) (by kernel_rfl) ?_ (fun hHeld => ?_)
      · (try dsimp only)
        all_goals rfl
      refine takeU 0 ?_
      refine takeU 1 ?_
      refine takeU 2 ?_
      refine takeU 3 ?_
      refine takeU 4 ?_
      refine takeU 5 ?_
      refine takeU 6 ?_
      refine takeU 7 ?_
      refine takeU 8 ?_
      refine takeU 9 ?_
      refine takeU 10 ?_
      refine takeU 11 ?_
      refine takeU 12 ?_
      refine takeU 13 ?_
      refine takeU 14 ?_
      refine takeU 15 ?_
      refine wpAnyH_done (by kernel_rfl) ?_ _
      go_wp2_with fail
      refine wp_region_tail (S := (fun w' => w' = w2.drew.drew)) (n := 13) (by kernel_rfl) ?_ (fun hHeld hInv => ?_) (by decide)
      · (try dsimp only)
        all_goals rfl
      refine takeUS 0 hInv ?_; clear hInv; intro hInv
      refine takeUS 1 hInv ?_; clear hInv; intro hInv
      refine takeUS 2 hInv ?_; clear hInv; intro hInv
      refine takeUS 3 hInv ?_; clear hInv; intro hInv
      refine takeUS 4 hInv ?_; clear hInv; intro hInv
      refine takeUS 5 hInv ?_; clear hInv; intro hInv
      refine takeUS 6 hInv ?_; clear hInv; intro hInv
      refine takeUS 7 hInv ?_; clear hInv; intro hInv
      refine takeUS 8 hInv ?_; clear hInv; intro hInv
      refine takeUS 9 hInv ?_; clear hInv; intro hInv
      refine takeUS 10 hInv ?_; clear hInv; intro hInv
      refine takeUS 11 hInv ?_; clear hInv; intro hInv
      refine takeUS 12 hInv ?_; clear hInv; intro hInv
      refine lastS 13 rfl (by decide) (by kernel_rfl) (fun K hK => ?_)
      go_simp
      refine hK.out _ _ ?_
      clear hK K
      try simp only [Act.put, List.setIfInBounds_toArray, List.set_cons_zero, List.set_cons_succ]
      refine wpAnyS_done (by kernel_rfl) ?_ _
      go_wp2_with fail
      refine hV.mono ?_
      rintro e w5 ⟨rfl, hI5, hC5⟩
      go_wp2_with fail
      go_ret
      exact ⟨rfl, hI5, ((Chg.of_below _ hA2.drew.drew).trans hC3 (fun j q => .inl (by rw [q]; rfl))).trans hC5 (fun j q => .inl q)⟩
end Go.Proofs.YtnjifmecaeagaaaDoor
end
section
set_option linter.unusedVariables false
set_option linter.unusedSimpArgs false
namespace Go.Proofs.YtnjifmecaeagaaaDoor
open Go.RowKit Go.ChangeShapes Go.WideShapes Go.Deep

set_option maxRecDepth 10000 in
set_option maxHeartbeats 1000000 in
theorem keep_any {w : World} {base B : Nat} {v : Value} {S : List St} (hI : IxAt w base B v S) (hS : SOk S) (ch ix cl mn : Int) (fr : Bool) (hl : S.length ≤ 10000) (hw : Lw w) :
    Calls Tryd.prog 43 #[.pointer (some ⟨B, 0, none⟩), .agg #[.int .i64 ch, .int .i64 ix, .int .i64 cl, .int .i64 mn, .bool fr]] w fun e w' => e = .returned (.bool (keepS S ch ix cl mn).1) ∧ IxAt w' base B v (keepS S ch ix cl mn).2 ∧ Chg (fun k => v.ownBlock = some k) w w' := by
  have hA := (Below.refl w.heap.size w).alloc (Nat.le_refl _) (.cells #[.int .i64 ch, .int .i64 ix, .int .i64 cl, .int .i64 mn, .bool fr] 62)
  have hI1 := hI.keep hA
  have hBit := ixBit_any hI1 ch ix cl mn fr hl (hw.keep hA)
  obtain ⟨C, hC⟩ : ∃ C, w.heap.size = C := ⟨_, rfl⟩
  obtain ⟨p0, p1, p2, p3, p4⟩ : (w.alloc (.cells #[.int .i64 ch, .int .i64 ix, .int .i64 cl, .int .i64 mn, .bool fr] 62)).cell? ⟨C, 0, none⟩ = some (.int .i64 ch) ∧ (w.alloc (.cells #[.int .i64 ch, .int .i64 ix, .int .i64 cl, .int .i64 mn, .bool fr] 62)).cell? ⟨C, 1, none⟩ = some (.int .i64 ix) ∧ (w.alloc (.cells #[.int .i64 ch, .int .i64 ix, .int .i64 cl, .int .i64 mn, .bool fr] 62)).cell? ⟨C, 2, none⟩ = some (.int .i64 cl) ∧ (w.alloc (.cells #[.int .i64 ch, .int .i64 ix, .int .i64 cl, .int .i64 mn, .bool fr] 62)).cell? ⟨C, 3, none⟩ = some (.int .i64 mn) ∧ (w.alloc (.cells #[.int .i64 ch, .int .i64 ix, .int .i64 cl, .int .i64 mn, .bool fr] 62)).cell? ⟨C, 4, none⟩ = some (.bool fr) := by
    rw [← hC]; refine ⟨?_, ?_, ?_, ?_, ?_⟩ <;> simp [go_sem]
  have hFr : keepS S ch ix cl mn = (if bitS S ch ix cl mn = 0 ∨ (gS S ch.toNat).2.2 &&& bitS S ch ix cl mn = 0 then (false, S) else (true, S.set ch.toNat ((gS S ch.toNat).1, (gS S ch.toNat).2.1 ||| bitS S ch ix cl mn, clrN (gS S ch.toNat).2.2 (bitS S ch ix cl mn)))) := rfl
  have hBt := bit_there hS (ch := ch) (ix := ix) (cl := cl) (mn := mn)
  generalize keepS S ch ix cl mn = r at *
  generalize bitS S ch ix cl mn = bt at *
  clear hS hw
  by_cases b0 : bt = 0
  · have t1 : (((bt : Nat) : Int) == 0) = true := by rw [beq_iff_eq]; omega
    rw [if_pos (.inl b0)] at hFr
    subst hFr
    clear hBt b0 hl
    go_enter Tryd.func43, Tryd.ntmps43
    go_wp2_with fail
    (try simp only [hC])
    generalize (w.alloc (.cells #[.int .i64 ch, .int .i64 ix, .int .i64 cl, .int .i64 mn, .bool fr] 62)) = W1 at *
    refine hBit.mono ?_
    rintro e w2 ⟨rfl, hb2⟩
    have hI2 := hI1.keep hb2
    have hA2 := hA.trans (hb2.mono hA.size)
    clear hBit
    go_wp2_with fail
    refine wp_region_held_drew (S := (fun w' => w' = w2.drew)) (by kernel_rfl) ?_ (fun hHeld => ?_)
    · (try dsimp only)
      all_goals rfl
    refine takeU 0 ?_
    refine takeU 1 ?_
    refine takeU 2 ?_
    refine idleQ 3 ?_
    refine idleQ 4 ?_
    refine idleQ 5 ?_
    refine idleQ 6 ?_
    refine idleQ 7 ?_
    refine idleQ 8 ?_
    refine idleQ 9 ?_
    refine idleQ 10 ?_
    refine idleQ 11 ?_
    refine idleQ 12 ?_
    refine idleQ 13 ?_
    refine idleQ 14 ?_
    refine takeU 15 ?_
    refine wpAnyH_done (by kernel_rfl) ?_ _
    go_wp2_with fail
    go_ret
    exact ⟨rfl, ⟨hI2.box, hI2.row, hI2.lo⟩, Chg.of_below _ hA2.drew⟩
  · obtain ⟨i, rfl, hi, bt9, lv9, tk9, hcl⟩ := hBt b0
    clear hBt
    rw [Int.toNat_natCast] at hFr
    have t1 : (((bt : Nat) : Int) == 0) = false := by rw [beq_eq_false_iff_ne]; omega
    obtain ⟨nn, hnn⟩ : ∃ n, S.length = n := ⟨_, rfl⟩
    obtain ⟨g, cap, rfl, hbg, hgl, hcap⟩ := hI.row.form (by omega)
    rw [hnn] at hi hcl hI hI1 hcap hl ⊢
    generalize hs : gS S i = s at *
    obtain ⟨x, lv, tk⟩ := s
    simp only [] at hFr lv9 tk9
    have t2 : bits .and .u64 ((tk : Nat) : Int) ((bt : Nat) : Int) = ((tk &&& bt : Nat) : Int) := u64_and_nat _ _ (by omega) (by omega)
    have i1 : decide (((i : Nat) : Int) < 0) = false := decide_eq_false (by omega)
    have i2 : ((i : Nat) : Int) < (nn : Int) := by omega
    by_cases a0 : tk &&& bt = 0
    · rw [if_pos (.inr a0)] at hFr
      subst hFr
      rw [a0] at t2
      clear hcl b0 a0
      go_enter Tryd.func43, Tryd.ntmps43
      go_wp2_with fail
      (try simp only [hC])
      generalize (w.alloc (.cells #[.int .i64 (i : Nat), .int .i64 ix, .int .i64 cl, .int .i64 mn, .bool fr] 62)) = W1 at *
      refine hBit.mono ?_
      rintro e w2 ⟨rfl, hb2⟩
      have hI2 := hI1.keep hb2
      have hA2 := hA.trans (hb2.mono hA.size)
      have hc6 := (OwnE.cell eS_len hI2.row hnn (i := i) (j := 6) hi (by omega)).1
      rw [show S.getD i default = (x, lv, tk) from hs] at hc6
      replace hc6 : w2.cell? ⟨g, i * 7 + 6, none⟩ = some (.int .u64 (tk : Nat)) := hc6
      have xB := hI2.box.cell
      have q0 := cellK5 p0 hb2
      clear hBit p0 p1 p2 p3 p4
      go_wp2_with fail
      refine wp_region_held_drew (S := (fun w' => w' = w2.drew)) (by kernel_rfl) ?_ (fun hHeld => ?_)
      · (try dsimp only)
        all_goals rfl
      refine takeU 0 ?_
      refine takeU 1 ?_
      refine takeU 2 ?_
      refine takeU 3 ?_
      refine takeU 4 ?_
      refine takeU 5 ?_
      refine takeU 6 ?_
      refine takeU 7 ?_
      refine takeU 8 ?_
      refine takeU 9 ?_
      refine takeU 10 ?_
      refine takeU 11 ?_
      refine takeU 12 ?_
      refine takeU 13 ?_
      refine takeU 14 ?_
      refine takeU 15 ?_
      refine wpAnyH_done (by kernel_rfl) ?_ _
      go_wp2_with fail
      go_ret
      exact ⟨rfl, ⟨hI2.box, hI2.row, hI2.lo⟩, Chg.of_below _ hA2.drew⟩
    · have t3 : ((((tk &&& bt : Nat) : Int)) == 0) = false := by rw [beq_eq_false_iff_ne]; omega
      rw [if_neg (fun q => q.elim b0 a0)] at hFr
      have t4 : bits .andNot .u64 ((tk : Nat) : Int) ((bt : Nat) : Int) = (clrN tk bt : Nat) := andNot_clr (by omega) (by omega)
      have t5 : bits .or .u64 ((lv : Nat) : Int) ((bt : Nat) : Int) = ((lv ||| bt : Nat) : Int) := u64_or_nat _ _ (by omega) (by omega)
      subst hFr
      generalize hnv : clrN tk bt = nv at *
      generalize hob : lv ||| bt = ob at *
      clear hnv hob
      generalize tk &&& bt = an at *
      clear b0 a0
      go_enter Tryd.func43, Tryd.ntmps43
      go_wp2_with fail
      (try simp only [hC])
      generalize (w.alloc (.cells #[.int .i64 (i : Nat), .int .i64 ix, .int .i64 cl, .int .i64 mn, .bool fr] 62)) = W1 at *
      refine hBit.mono ?_
      rintro e w2 ⟨rfl, hb2⟩
      have hI2 := hI1.keep hb2
      have hA2 := hA.trans (hb2.mono hA.size)
      obtain ⟨hc6, hf6⟩ := OwnE.cell eS_len hI2.row hnn (i := i) (j := 6) hi (by omega)
      rw [show S.getD i default = (x, lv, tk) from hs] at hc6
      replace hc6 : w2.cell? ⟨g, i * 7 + 6, none⟩ = some (.int .u64 (tk : Nat)) := hc6
      have xB := hI2.box.cell
      have q0 := cellK5 p0 hb2
      have q1 := cellK5 p1 hb2
      have q2 := cellK5 p2 hb2
      have q3 := cellK5 p3 hb2
      have q4 := cellK5 p4 hb2
      obtain ⟨hI3, hC3⟩ := IxAt.set (w := w2.drew.drew) (s := (x, lv, nv)) ⟨hI2.box, hI2.row, hI2.lo⟩ hnn hi (j := 6) (by omega) (u := .int .u64 (nv : Nat)) (by rw [hs]; rfl)
      have hgC : ¬ C = g := by omega
      obtain ⟨z0, z1, z2, z3, z4⟩ : (w2.drew.drew.setCell ⟨g, i * 7 + 6, none⟩ (.int .u64 (nv : Nat))).cell? ⟨C, 0, none⟩ = some (.int .i64 (i : Nat)) ∧ (w2.drew.drew.setCell ⟨g, i * 7 + 6, none⟩ (.int .u64 (nv : Nat))).cell? ⟨C, 1, none⟩ = some (.int .i64 ix) ∧ (w2.drew.drew.setCell ⟨g, i * 7 + 6, none⟩ (.int .u64 (nv : Nat))).cell? ⟨C, 2, none⟩ = some (.int .i64 cl) ∧ (w2.drew.drew.setCell ⟨g, i * 7 + 6, none⟩ (.int .u64 (nv : Nat))).cell? ⟨C, 3, none⟩ = some (.int .i64 mn) ∧ (w2.drew.drew.setCell ⟨g, i * 7 + 6, none⟩ (.int .u64 (nv : Nat))).cell? ⟨C, 4, none⟩ = some (.bool fr) := by
        exact ⟨(World.cell?_of_block (hC3.block C (World.block_lt_of_cell? _ _ q0) hgC)).trans q0, (World.cell?_of_block (hC3.block C (World.block_lt_of_cell? _ _ q0) hgC)).trans q1, (World.cell?_of_block (hC3.block C (World.block_lt_of_cell? _ _ q0) hgC)).trans q2, (World.cell?_of_block (hC3.block C (World.block_lt_of_cell? _ _ q0) hgC)).trans q3, (World.cell?_of_block (hC3.block C (World.block_lt_of_cell? _ _ q0) hgC)).trans q4⟩
      have hg3 : gS (S.set i (x, lv, nv)) i = (x, lv, nv) := by rw [gS_set _ _ _ _ (by omega), if_pos rfl]
      have hl3 : (S.set i (x, lv, nv)).length = nn := by rw [List.length_set]; exact hnn
      have hc5 := (OwnE.cell eS_len hI3.row hl3 (i := i) (j := 5) hi (by omega)).1
      have hf5 := (OwnE.cell eS_len hI3.row hl3 (i := i) (j := 5) hi (by omega)).2
      rw [show (S.set i (x, lv, nv)).getD i default = (x, lv, nv) from hg3] at hc5
      replace hc5 : (w2.drew.drew.setCell ⟨g, i * 7 + 6, none⟩ (.int .u64 (nv : Nat))).cell? ⟨g, i * 7 + 5, none⟩ = some (.int .u64 (lv : Nat)) := hc5
      have zB := hI3.box.cell

      obtain ⟨hI4, hC4⟩ := IxAt.set (w := (w2.drew.drew.setCell ⟨g, i * 7 + 6, none⟩ (.int .u64 (nv : Nat))).drew) (s := (x, ob, nv)) ⟨hI3.box, hI3.row, hI3.lo⟩ hl3 hi (j := 5) (by omega) (u := .int .u64 (ob : Nat)) (by rw [hg3]; rfl)
      rw [List.set_set] at hI4
      clear hBit p0 p1 p2 p3 p4
      have eW : w2.drew.drew.setCell ⟨g, i * 7 + 6, none⟩ (.int .u64 (nv : Nat)) = (w2.setCell ⟨g, i * 7 + 6, none⟩ (.int .u64 (nv : Nat))).drew.drew := rfl
      rw [eW] at hC3 z0 z1 z2 z3 z4 hI4 hC4 hc5 hf5 zB
      clear eW hI3 hg3 hl3 hs z1 z2 z3 z4
      go_wp2_with fail
      refine wp_region_held_drew (S := (fun w' => w' = w2.drew)) (by kernel_rfl) ?_ (fun hHeld => ?_)
      · (try dsimp only)
        all_goals rfl
      refine takeU 0 ?_
      refine takeU 1 ?_
      refine takeU 2 ?_
      refine takeU 3 ?_
      refine takeU 4 ?_
      refine takeU 5 ?_
      refine takeU 6 ?_
      refine takeU 7 ?_
      refine takeU 8 ?_
      refine takeU 9 ?_
      refine takeU 10 ?_
      refine takeU 11 ?_
      refine takeU 12 ?_
      refine takeU 13 ?_
      refine takeU 14 ?_
      refine takeU 15 ?_
      refine wpAnyH_done (by kernel_rfl) ?_ _
      go_wp2_with fail
      refine wp_region_tail (S := (fun w' => w' = w2.drew.drew)) (n := 13) (by kernel_rfl) ?_ (fun hHeld hInv => ?_) (by decide)
      · (try dsimp only)
        all_goals rfl
      refine takeUS 0 hInv ?_; clear hInv; intro hInv
      refine takeUS 1 hInv ?_; clear hInv; intro hInv
      refine takeUS 2 hInv ?_; clear hInv; intro hInv
      refine takeUS 3 hInv ?_; clear hInv; intro hInv
      refine takeUS 4 hInv ?_; clear hInv; intro hInv
      refine takeUS 5 hInv ?_; clear hInv; intro hInv
      refine takeUS 6 hInv ?_; clear hInv; intro hInv
      refine takeUS 7 hInv ?_; clear hInv; intro hInv
      refine takeUS 8 hInv ?_; clear hInv; intro hInv
      refine takeUS 9 hInv ?_; clear hInv; intro hInv
      refine takeUS 10 hInv ?_; clear hInv; intro hInv
      refine takeUS 11 hInv ?_; clear hInv; intro hInv
      refine takeUS 12 hInv ?_; clear hInv; intro hInv
      refine lastS 13 rfl (by decide) (by kernel_rfl) (fun K hK => ?_)
      go_simp
      refine hK.out _ _ ?_
      clear hK K
      try simp only [Act.put, List.setIfInBounds_toArray, List.set_cons_zero, List.set_cons_succ]
      refine wpAnyS_done (by kernel_rfl) ?_ _
      go_wp2_with fail
      refine wp_region_tail (S := (fun w' => w' = (w2.setCell ⟨g, i * 7 + 6, none⟩ (.int .u64 (nv : Nat))).drew.drew.drew)) (n := 13) (by kernel_rfl) ?_ (fun hHeld hInv => ?_) (by decide)
      · (try dsimp only)
        all_goals rfl
      refine takeUS 0 hInv ?_; clear hInv; intro hInv
      refine takeUS 1 hInv ?_; clear hInv; intro hInv
      refine takeUS 2 hInv ?_; clear hInv; intro hInv
      refine takeUS 3 hInv ?_; clear hInv; intro hInv
      refine takeUS 4 hInv ?_; clear hInv; intro hInv
      refine takeUS 5 hInv ?_; clear hInv; intro hInv
      refine takeUS 6 hInv ?_; clear hInv; intro hInv
      refine takeUS 7 hInv ?_; clear hInv; intro hInv
      refine takeUS 8 hInv ?_; clear hInv; intro hInv
      refine takeUS 9 hInv ?_; clear hInv; intro hInv
      refine takeUS 10 hInv ?_; clear hInv; intro hInv
      refine takeUS 11 hInv ?_; clear hInv; intro hInv
      refine takeUS 12 hInv ?_; clear hInv; intro hInv
      refine lastS 13 rfl (by decide) (by kernel_rfl) (fun K hK => ?_)
      go_simp
      refine hK.out _ _ ?_
      clear hK K
      try simp only [Act.put, List.setIfInBounds_toArray, List.set_cons_zero, List.set_cons_succ]
      refine wpAnyS_done (by kernel_rfl) ?_ _
      go_wp2_with fail
      go_ret
      exact ⟨rfl, ⟨hI4.box, hI4.row, hI4.lo⟩, ((Chg.of_below _ hA2.drew.drew).trans hC3 (fun j q => .inl (by rw [q]; rfl))).trans (S2 := fun k => k = g) ⟨hC4.os, hC4.tape, hC4.output, hC4.size, hC4.block⟩ (fun j q => .inl (by rw [q]; rfl))⟩
end Go.Proofs.YtnjifmecaeagaaaDoor
end
section
set_option linter.unusedVariables false
set_option linter.unusedSimpArgs false
namespace Go.Proofs.YtnjifmecaeagaaaDoor
open Go.Lib Go.RowKit Go.ChangeShapes Go.WideShapes Go.Deep

theorem setL_put (S : List St) (i : Nat) (s : St) (h : i < S.length) : setL (S.flatMap eS) (i * 7) (eS s) = (S.set i s).flatMap eS := by
  apply List.ext_getElem?
  intro p
  have hS : (S.flatMap eS).length = S.length * 7 := fm_len eS_len S
  have hF : ((S.set i s).flatMap eS).length = S.length * 7 := by rw [fm_len eS_len, List.length_set]
  rw [setL_at _ _ _ _ (by rw [eS_len, hS]; omega), eS_len]
  by_cases hp : p < S.length * 7
  · have h7 : p % 7 < 7 := Nat.mod_lt _ (by omega)
    have hr := fm_at eS_len (S.set i s) (p / 7) (p % 7) (by rw [List.length_set]; omega) h7
    rw [show p / 7 * 7 + p % 7 = p by omega, getD_set] at hr
    rw [hr]
    by_cases q : i * 7 ≤ p ∧ p < i * 7 + 7
    · rw [if_pos q, if_pos ⟨by omega, h⟩, show p - i * 7 = p % 7 by omega]
    · rw [if_neg q, if_neg (by omega)]
      have h2 := fm_at eS_len S (p / 7) (p % 7) (by omega) h7
      rw [show p / 7 * 7 + p % 7 = p by omega] at h2
      exact h2
  · rw [if_neg (by omega), List.getElem?_eq_none (by rw [hS]; omega), List.getElem?_eq_none (by rw [hF]; omega)]
/-- a whole chunk is put -/
theorem IxAt.put {w : World} {base B g nn cap : Nat} {S : List St} (h : IxAt w base B (.slice (some ⟨g, 0, none⟩) nn cap) S) (hn : S.length = nn) {i : Nat} (hi : i < nn) (s : St) :
    IxAt (w.setCells g (i * 7) (eS s)) base B (.slice (some ⟨g, 0, none⟩) nn cap) (S.set i s) ∧ Chg (fun k => k = g) w (w.setCells g (i * 7) (eS s)) := by
  obtain ⟨k1, k2⟩ := stored_list (eS s) (S.flatMap eS) (i * 7) w (by have := h.row; unfold SKO OwnE at this; rw [hn] at this; exact this)
  refine ⟨⟨(k2.block B h.box.lt (fun q => h.ne g rfl q.symm)).trans h.box, ?_, h.lo⟩, k2⟩
  unfold SKO OwnE
  rw [List.length_set, hn, ← setL_put S i s (by omega)]
  exact k1
def dropLogS (S : List St) (i : Int) : Bool × List St := if 0 ≤ i ∧ i < S.length ∧ kN (gS S i.toNat).1 = 4 then (true, S.set i.toNat (0, 0, 0)) else (false, S)
set_option maxRecDepth 10000 in
set_option maxHeartbeats 1000000 in
theorem dropLog_out {w : World} {base B : Nat} {v : Value} {S : List St} (hI : IxAt w base B v S) (i : Int) (h : ¬ (0 ≤ i ∧ i < S.length)) :
    Calls Tryd.prog 49 #[.pointer (some ⟨B, 0, none⟩), .int .i64 i] w fun e w' => e = .returned (.bool false) ∧ Below w.heap.size w w' := by
  have xB := hI.box.cell
  obtain ⟨nn, hnn⟩ : ∃ n, S.length = n := ⟨_, rfl⟩
  obtain ⟨A, cap, rfl, _⟩ := SKL.form (hI.row.el eS_len) hnn
  rw [hnn] at h
  have hA := Below.refl w.heap.size w
  clear hI hnn
  by_cases h0 : i < 0
  · have d0 : decide (i < 0) = true := decide_eq_true h0
    clear h
    go_enter Tryd.func49, Tryd.ntmps49
    go_wp2_with fail
    go_ret
    exact ⟨rfl, hA⟩
  · have h1 : (nn : Int) ≤ i := by omega
    have d0 : decide (i < 0) = false := decide_eq_false h0
    have d1 : decide ((nn : Int) ≤ i) = true := decide_eq_true h1
    clear h
    go_enter Tryd.func49, Tryd.ntmps49
    go_wp2_with fail
    go_ret
    exact ⟨rfl, hA⟩
set_option maxRecDepth 10000 in
set_option maxHeartbeats 1000000 in
theorem dropLog_in {w : World} {base B : Nat} {v : Value} {S : List St} (hI : IxAt w base B v S) (i : Nat) (h : i < S.length) (hl : S.length ≤ 10000) :
    Calls Tryd.prog 49 #[.pointer (some ⟨B, 0, none⟩), .int .i64 (i : Nat)] w fun e w' => e = .returned (.bool (decide (kN (gS S i).1 = 4))) ∧ IxAt w' base B v (if kN (gS S i).1 = 4 then S.set i (0, 0, 0) else S) ∧ Chg (fun k => v.ownBlock = some k) w w' := by
  have xB := hI.box.cell
  obtain ⟨nn, hnn⟩ : ∃ n, S.length = n := ⟨_, rfl⟩
  obtain ⟨g, cap, rfl, _, hgl, hcap⟩ := hI.row.form (by omega)
  rw [hnn] at h hl hI hcap xB ⊢
  have hA := Below.refl w.heap.size w
  have hc0 := (OwnE.cell eS_len hI.row hnn (i := i) (j := 0) h (by omega)).1
  obtain ⟨hP, hCP⟩ := IxAt.put hI hnn h (0, 0, 0)
  have hfz := fun j (hj : j < 7) => OwnE.cell eS_len hI.row hnn (i := i) (j := j) h hj
  generalize hs : gS S i = s at *
  rw [show S.getD i default = s from hs] at hc0
  obtain ⟨x, lv, tk⟩ := s
  replace hc0 : w.cell? ⟨g, i * 7, none⟩ = some (.int .i64 (kN x : Nat)) := hc0
  have i1 : decide (((i : Nat) : Int) < 0) = false := decide_eq_false (by omega)
  have i2 : decide ((nn : Int) ≤ ((i : Nat) : Int)) = false := decide_eq_false (by omega)
  have i3 : decide (nn ≤ i) = false := decide_eq_false (by omega)
  have i4 : ((i : Nat) : Int) < (nn : Int) := by omega
  simp only []
  obtain ⟨c0, z0⟩ := hfz 0 (by omega)
  obtain ⟨c1, z1⟩ := hfz 1 (by omega)
  obtain ⟨c2, z2⟩ := hfz 2 (by omega)
  obtain ⟨c3, z3⟩ := hfz 3 (by omega)
  obtain ⟨c4, z4⟩ := hfz 4 (by omega)
  obtain ⟨c5, z5⟩ := hfz 5 (by omega)
  obtain ⟨c6, z6⟩ := hfz 6 (by omega)
  rw [show S.getD i default = (x, lv, tk) from hs] at c0 c1 c2 c3 c4 c5 c6
  replace c0 : w.cell? ⟨g, i * 7, none⟩ = some (.int .i64 (kN x : Nat)) := c0
  replace c1 : w.cell? ⟨g, i * 7 + 1, none⟩ = some (.int .i64 (cN x : Nat)) := c1
  replace c2 : w.cell? ⟨g, i * 7 + 2, none⟩ = some (.int .i64 (lnN x : Nat)) := c2
  replace c3 : w.cell? ⟨g, i * 7 + 3, none⟩ = some (.int .i64 (mN x : Nat)) := c3
  replace c4 : w.cell? ⟨g, i * 7 + 4, none⟩ = some (.int .u64 (bN x : Nat)) := c4
  replace c5 : w.cell? ⟨g, i * 7 + 5, none⟩ = some (.int .u64 (lv : Nat)) := c5
  replace c6 : w.cell? ⟨g, i * 7 + 6, none⟩ = some (.int .u64 (tk : Nat)) := c6
  rw [Nat.add_zero] at z0
  clear hfz hc0
  by_cases k4 : kN x = 4
  · have t1 : (((kN x : Nat) : Int) != 4) = false := by rw [bne_eq_false_iff_eq]; omega
    rw [decide_eq_true k4, if_pos k4]
    clear k4 hs
    go_enter Tryd.func49, Tryd.ntmps49
    go_wp2_with fail
    go_ret
    refine ⟨rfl, ?_, ?_⟩
    · exact hP
    · exact (Chg.refl (fun k => Value.ownBlock (.slice (some ⟨g, 0, none⟩) nn cap) = some k) w).trans hCP (fun j q => .inl (by rw [q]; rfl))
  · have t1 : (((kN x : Nat) : Int) != 4) = true := by rw [bne_iff_ne]; omega
    rw [decide_eq_false k4, if_neg k4]
    clear k4 hs hP hCP
    go_enter Tryd.func49, Tryd.ntmps49
    go_wp2_with fail
    go_ret
    exact ⟨rfl, ⟨hI.box, hI.row, hI.lo⟩, Chg.of_below _ hA⟩
theorem dropLog_any {w : World} {base B : Nat} {v : Value} {S : List St} (hI : IxAt w base B v S) (i : Int) (hl : S.length ≤ 10000) :
    Calls Tryd.prog 49 #[.pointer (some ⟨B, 0, none⟩), .int .i64 i] w fun e w' => e = .returned (.bool (dropLogS S i).1) ∧ IxAt w' base B v (dropLogS S i).2 ∧ Chg (fun k => v.ownBlock = some k) w w' := by
  unfold dropLogS
  by_cases h : 0 ≤ i ∧ i < S.length
  · obtain ⟨i, rfl⟩ : ∃ j : Nat, i = (j : Int) := ⟨i.toNat, by omega⟩
    have hd := dropLog_in hI i (by omega) hl
    rw [Int.toNat_natCast]
    by_cases k4 : kN (gS S i).1 = 4
    · rw [if_pos ⟨h.1, h.2, k4⟩]
      rw [decide_eq_true k4, if_pos k4] at hd
      exact hd
    · rw [if_neg (fun q => k4 q.2.2)]
      rw [decide_eq_false k4, if_neg k4] at hd
      exact hd
  · rw [if_neg (fun q => h ⟨q.1, q.2.1⟩)]
    refine (dropLog_out hI i h).mono ?_
    rintro e w2 ⟨rfl, hb⟩
    exact ⟨rfl, hI.keep hb, Chg.of_below _ hb⟩
end Go.Proofs.YtnjifmecaeagaaaDoor
end
