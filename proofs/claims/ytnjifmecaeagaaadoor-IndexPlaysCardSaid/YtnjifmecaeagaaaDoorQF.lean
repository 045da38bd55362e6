/-
  Package index: its iterator of rows, for a caller that keeps but some of the memory.
  Package index: Rows.
  Package index: an index at work: its calls, one behind the other.
  Package index: an index at work stays, whatever else changes.
  The laws of package index: the chapter's example.
-/
import Derived.Test.YtnjifmecaeagaaaDoorQE
import Derived.Test.YtnjifmecaeagaaaDoorRegW
import Derived.Test.YtnjifmecaeagaaaDoorTold
import Derived.Test.YtnjifmecaeagaaaDoorRegQ
import Derived.Test.YtnjifmecaeagaaaDoorTi8
section
set_option linter.unusedVariables false
set_option linter.unusedSimpArgs false
namespace Go.Proofs.YtnjifmecaeagaaaDoor
open Go.RowKit Go.ChangeShapes Go.WideShapes Go.Deep Go.Shelf
attribute [local go_sem] Oper.semAt_some
set_option maxRecDepth 100000 in
set_option maxHeartbeats 2000000 in
theorem rowsK_in (n : Nat) (hn : 1 ≤ n) (l Bx Bm B n₀ : Nat) (v : Value) (S : List St) (m : Nat) (hm : 1 ≤ m) (hm2 : m ≤ 8191) (hS : SOk S) (hl : S.length ≤ 10000) (J Jx : List Nat → World → Prop) (Kr : World → World → Prop)
    (hKt : ∀ {A B C : World}, Kr A B → Kr B C → Kr A C) (hKb : ∀ A B : World, n₀ ≤ A.heap.size → Below A.heap.size A B → Kr A B) (hKs : ∀ A B : World, Kr A B → A.heap.size ≤ B.heap.size)
    (hJ : ∀ pre W1 W2, J pre W1 → Below W1.heap.size W1 W2 → J pre W2)
    (hY : ∀ pre (y : Nat) W, J pre W → y < S.length → pre.length < (rowsTo S m S.length).length → YieldAt Fence.wide (n - 1) Tryd.prog l #[.int .i64 (y : Int)] W fun e W' =>
      (e = .returned (.bool true) ∧ J (pre ++ [y]) W' ∧ Kr W W') ∨ (e = .returned (.bool false) ∧ Jx (pre ++ [y]) W'))
    (W : World) (hn₀ : n₀ ≤ W.heap.size) (hBx : W.cell? ⟨Bx, 0, none⟩ = some (.pointer (some ⟨B, 0, none⟩))) (hBm : ∀ w1, Kr W w1 → w1.cell? ⟨Bm, 0, none⟩ = some (.int .i64 (m : Nat)))
    (hIx : W.cell? ⟨B, 0, none⟩ = some v) (hEL : ∀ w1, Kr W w1 → EL 7 eS w1 v S) (h0 : J [] W) :
    CallsIn Fence.wide n Tryd.prog 99 #[.func (.yield l) #[] #[], .pointer (some ⟨Bx, 0, none⟩), .pointer (some ⟨Bm, 0, none⟩)] W fun e W' => (∃ v, e = .returned v) ∧
      ((∃ ys, ys = rowsTo S m S.length ∧ J ys W') ∨ (∃ pre, pre <+: rowsTo S m S.length ∧ Jx pre W')) := by
  obtain ⟨N, hN⟩ : ∃ N, S.length = N := ⟨_, rfl⟩
  obtain ⟨A, cap, rfl, _⟩ := SKL.form (hEL W (hKb W W hn₀ (Below.refl _ _))) hN
  have hF := Lib.hid (fun w1 (hb : Kr W w1) (i : Nat) (hi : i < N) => show ∃ g off, A = some ⟨g, off, none⟩ ∧ N ≤ cap ∧ w1.cell? ⟨g, off + i * 7, none⟩ = some (.int .i64 (kN (gS S i).1 : Nat)) ∧ w1.cell? ⟨g, off + i * 7 + 1, none⟩ = some (.int .i64 (cN (gS S i).1 : Nat)) ∧ w1.cell? ⟨g, off + i * 7 + 2, none⟩ = some (.int .i64 (lnN (gS S i).1 : Nat)) ∧ w1.cell? ⟨g, off + i * 7 + 3, none⟩ = some (.int .i64 (mN (gS S i).1 : Nat)) ∧ w1.cell? ⟨g, off + i * 7 + 4, none⟩ = some (.int .u64 (bN (gS S i).1 : Nat)) ∧ w1.cell? ⟨g, off + i * 7 + 5, none⟩ = some (.int .u64 ((gS S i).2.1 : Nat)) ∧ w1.cell? ⟨g, off + i * 7 + 6, none⟩ = some (.int .u64 ((gS S i).2.2 : Nat)) from by
    obtain ⟨A2, cap2, he, h⟩ := SKL.form (hEL w1 hb) hN
    simp only [Value.slice.injEq, true_and] at he
    obtain ⟨rfl, rfl⟩ := he
    obtain ⟨g, off, a1, a2, _, _, a3⟩ := h w1 i (Below.refl _ _) hi
    exact ⟨g, off, a1, a2, a3⟩)
  have hBd := Lib.hid (fun j (hj : j < N) => st_bd (hS.each j (by omega)))
  have hPre := Lib.hid (fun j (hj : j ≤ N) => show rowsTo S m j <+: rowsTo S m N from by have := rowsTo_pre S m j (N - j); rw [show j + (N - j) = N by omega] at this; exact this)
  have hStp := Lib.hid (fun j => rowsTo_step S m j)
  have hCnt := Lib.hid (fun j => show cntR S (j + 1) = if hadS (gS S j) then cntR S j + 1 else 0 from rfl)
  have hCle := Lib.hid (fun j => cntR_le S j)
  have hR0 := Lib.hid (show rowsTo S m 0 = [] from rfl)
  have hC0 := Lib.hid (show cntR S 0 = 0 from rfl)
  rw [hN] at hY hl ⊢
  have hBmF := Lib.hid hBm
  replace hY := Lib.hid hY
  replace hJ := Lib.hid hJ
  clear hBm hEL hS
  replace hN := Lib.hid hN
  refine callsIn_of_wp Tryd.func99 rfl trivial ?_ rfl
  simp only [Tryd.ntmps99, List.size_toArray, List.length_cons, List.length_nil, Nat.reduceAdd, Nat.reduceSub, Array.replicate_succ, Array.replicate_zero, List.push_toArray, List.append_toArray, List.nil_append, List.cons_append]
  gi_wp2
  gi_loopw [4, 12] (fun r i wr => ∃ (j : Nat), j ≤ N ∧ i = .int .i64 j ∧ r = .int .i64 (cntR S j : Nat) ∧ J (rowsTo S m j) wr ∧ Kr W wr) (fun _ i _ => N + 1 - (intOf i).toNat)
  case atStart => exact ⟨0, Nat.zero_le _, rfl, by rw [hC0.out]; rfl, by rw [hR0.out]; exact h0, hKb W W hn₀ (Below.refl _ _)⟩
  case round =>
    obtain ⟨j, hj, rfl, rfl, hJr, hBr⟩ := hrel
    clear h0 hBx hIx
    by_cases hlt : j < N
    · have hlt' : (j : Int) < (N : Int) := by omega
      obtain ⟨g, off, rfl, hcap, x0, x1, x2, x3, x4, x5, x6⟩ := hF.out wr hBr j hlt
      have hbd := hBd.out j hlt
      have hp := hPre.out (j + 1) (by omega)
      have hp0 := hStp.out j
      have hc := hCnt.out j
      have hcl := hCle.out j
      generalize gS S j = s at *
      obtain ⟨x, lv, tk⟩ := s
      simp only [] at x0 x1 x2 x3 x4 x5 x6 hbd
      have hA3 : Below wr.heap.size wr (wr.alloc (.cells #[.int .i64 (kN x : Nat), .int .i64 (cN x : Nat), .int .i64 (lnN x : Nat), .int .i64 (mN x : Nat), .int .u64 (bN x : Nat), .int .u64 (lv : Nat), .int .u64 (tk : Nat)] 99)) := (Below.refl _ _).alloc (Nat.le_refl _) _
      have hH := hadS_any x lv tk (wr.alloc (.cells #[.int .i64 (kN x : Nat), .int .i64 (cN x : Nat), .int .i64 (lnN x : Nat), .int .i64 (mN x : Nat), .int .u64 (bN x : Nat), .int .u64 (lv : Nat), .int .u64 (tk : Nat)] 99)) hbd.1 hbd.2
      have hJ3 := hJ.out _ _ _ hJr hA3
      have hB3 : Kr W (wr.alloc (.cells #[.int .i64 (kN x : Nat), .int .i64 (cN x : Nat), .int .i64 (lnN x : Nat), .int .i64 (mN x : Nat), .int .u64 (bN x : Nat), .int .u64 (lv : Nat), .int .u64 (tk : Nat)] 99)) := hKt hBr (hKb _ _ (Nat.le_trans hn₀ (hKs _ _ hBr)) hA3)
      generalize cntR S j = q at *
      clear hbd hA3
      cases hh : hadS (x, lv, tk) with
      | false =>
        rw [hh] at hH hc
        rw [if_neg (by simp)] at hc
        rw [hc, if_neg (by omega), List.append_nil] at hp0
        have d1 : decide ((m : Int) ≤ 0) = false := decide_eq_false (by omega)
        have d2 : decide (m ≤ 0) = false := decide_eq_false (by omega)
        clear hh
        replace hc := Lib.hid hc
        replace hp0 := Lib.hid hp0
        replace hp := Lib.hid hp
        gi_wp2
        refine ⟨trivial, (callsIn_wide.2 hH).mono ?_⟩
        rintro e w4 ⟨rfl, hb4⟩
        have hB4 := hKt hB3 (hKb _ _ (Nat.le_trans hn₀ (hKs _ _ hB3)) hb4)
        have hJ4 := hJ.out _ _ _ hJ3 hb4
        have bm := hBmF.out w4 hB4
        clear hH hJ3
        gi_wp2
        refine ⟨fun f hf => (by cases hf), ?_⟩
        gi_wp2
        go_roundw
        case rel => exact ⟨j + 1, by omega, by go_num, by rw [hc.out]; rfl, by rw [hp0.out]; exact hJ4, hB4⟩
        case measure => first | (simp [intOf]; done) | (simp [intOf]; omega)
      | true =>
        rw [hh] at hH hc
        rw [if_pos rfl] at hc
        clear hh
        by_cases hmq : m ≤ q + 1
        · rw [hc, if_pos hmq] at hp0
          have han : Hid (j + 1 - m < N) := Lib.hid (by omega)
          have hlen : (rowsTo S m j).length < (rowsTo S m N).length := by
            have := hp.length_le
            rw [hp0, List.length_append, List.length_singleton] at this
            omega
          obtain ⟨a, ha⟩ : ∃ a, a = j + 1 - m := ⟨_, rfl⟩
          rw [← ha] at hp0 han
          have d1 : decide ((m : Int) ≤ (q : Int) + 1) = true := decide_eq_true (by omega)
          have t0 : IntKind.i64.wrap ((q : Int) + 1) = (q : Int) + 1 := by rw [IntKind.wrap_i64]; omega
          have t1 : IntKind.i64.wrap ((j : Int) - (m : Int)) = (j : Int) - (m : Int) := by rw [IntKind.wrap_i64]; omega
          have t2 : IntKind.i64.wrap ((j : Int) - (m : Int) + 1) = (a : Int) := by rw [IntKind.wrap_i64]; omega
          replace hc := Lib.hid hc
          replace hp0 := Lib.hid hp0
          replace hp := Lib.hid hp
          replace ha := Lib.hid ha
          replace hlen := Lib.hid hlen
          gi_wp2
          refine ⟨trivial, (callsIn_wide.2 hH).mono ?_⟩
          rintro e w4 ⟨rfl, hb4⟩
          have hB4 := hKt hB3 (hKb _ _ (Nat.le_trans hn₀ (hKs _ _ hB3)) hb4)
          have hJ4 := hJ.out _ _ _ hJ3 hb4
          have bm := hBmF.out w4 hB4
          clear hH hJ3
          obtain ⟨fn, tmps, assign, body, hy, hR⟩ := hY.out (rowsTo S m j) a w4 hJ4 han.out hlen.out
          gi_wp2
          refine hR.mono ?_
          rintro e W5 (⟨rfl, hJ5, hk5⟩ | ⟨rfl, hJx5⟩)
          · gi_wp2
            go_roundw
            case rel => exact ⟨j + 1, by omega, by go_num, by rw [hc.out]; rfl, by rw [hp0.out]; exact hJ5, hKt hB4 hk5⟩
            case measure => first | (simp [intOf]; done) | (simp [intOf]; omega)
          · gi_wp2
            refine bodyPost_ret (results_none rfl _ _ _) rfl ?_
            exact ⟨⟨_, rfl⟩, .inr ⟨rowsTo S m j ++ [a], by rw [← hp0.out]; exact hp.out, hJx5⟩⟩
        · rw [hc, if_neg hmq, List.append_nil] at hp0
          have d1 : decide ((m : Int) ≤ (q : Int) + 1) = false := decide_eq_false (by omega)
          have t0 : IntKind.i64.wrap ((q : Int) + 1) = (q : Int) + 1 := by rw [IntKind.wrap_i64]; omega
          replace hc := Lib.hid hc
          replace hp0 := Lib.hid hp0
          replace hp := Lib.hid hp
          gi_wp2
          refine ⟨trivial, (callsIn_wide.2 hH).mono ?_⟩
          rintro e w4 ⟨rfl, hb4⟩
          have hB4 := hKt hB3 (hKb _ _ (Nat.le_trans hn₀ (hKs _ _ hB3)) hb4)
          have hJ4 := hJ.out _ _ _ hJ3 hb4
          have bm := hBmF.out w4 hB4
          clear hH hJ3
          gi_wp2
          refine ⟨fun f hf => (by cases hf), ?_⟩
          gi_wp2
          go_roundw
          case rel => exact ⟨j + 1, by omega, by go_num, by rw [hc.out]; rfl, by rw [hp0.out]; exact hJ4, hB4⟩
          case measure => first | (simp [intOf]; done) | (simp [intOf]; omega)
    · obtain rfl : j = N := by omega
      gi_wp2
      go_end0
      exact ⟨⟨_, rfl⟩, .inl ⟨_, rfl, hJr⟩⟩
end Go.Proofs.YtnjifmecaeagaaaDoor
end
section
set_option linter.unusedVariables false
set_option linter.unusedSimpArgs false
namespace Go.Proofs.YtnjifmecaeagaaaDoor
open Go.Lib Go.RowKit Go.ChangeShapes Go.WideShapes Go.Deep Go.Shelf
attribute [local go_sem] Oper.semAt_some
/-- a chunk that can be had is joined to the rows -/
def pushR (l : List (Nat × Nat)) (y : Nat) : List (Nat × Nat) :=
  if 0 < l.length ∧ (l.getD (l.length - 1) default).1 + (l.getD (l.length - 1) default).2 = y then l.set (l.length - 1) ((l.getD (l.length - 1) default).1, (l.getD (l.length - 1) default).2 + 1) else l ++ [(y, 1)]
def rowsI (pre : List Nat) : List (Nat × Nat) := pre.foldl pushR []
theorem rowsI_snoc (pre : List Nat) (y : Nat) : rowsI (pre ++ [y]) = pushR (rowsI pre) y := by unfold rowsI; rw [List.foldl_append]; rfl
theorem push_first {l : List (Nat × Nat)} {y : Nat} (hl : l.length = 0) : pushR l y = l ++ [(y, 1)] := by unfold pushR; rw [if_neg (fun q => by omega)]
theorem push_more {l : List (Nat × Nat)} {y q a m : Nat} (hl : l.length = q + 1) (hx : l.getD q default = (a, m)) (he : a + m = y) : pushR l y = l.set q (a, m + 1) := by
  unfold pushR; rw [hl, Nat.add_sub_cancel, hx, if_pos ⟨by omega, he⟩]
theorem push_next {l : List (Nat × Nat)} {y q a m : Nat} (hl : l.length = q + 1) (hx : l.getD q default = (a, m)) (he : ¬ a + m = y) : pushR l y = l ++ [(y, 1)] := by
  unfold pushR; rw [hl, Nat.add_sub_cancel, hx, if_neg (fun p => he p.2)]
/-- how great the rows' numbers are -/
theorem rowsI_bd' (N : Nat) : ∀ (k : Nat) (pre : List Nat), pre.length = k → (∀ x ∈ pre, x < N) → (rowsI pre).length ≤ pre.length ∧ ∀ i, i < (rowsI pre).length → ((rowsI pre).getD i default).1 < N ∧ ((rowsI pre).getD i default).2 ≤ pre.length := by
  intro k
  induction k with
  | zero => intro pre hk _; rw [List.length_eq_zero_iff.1 hk]; exact ⟨Nat.le_refl _, fun i hi => by cases hi⟩
  | succ k ih =>
    intro pre' hk h
    rcases List.eq_nil_or_concat pre' with rfl | ⟨pre, y, rfl⟩
    · cases hk
    rw [List.concat_eq_append] at hk h ⊢
    rw [List.length_append, List.length_singleton] at hk
    obtain ⟨h1, h2⟩ := ih pre (by omega) (fun x hx => h x (List.mem_append_left _ hx))
    have hy := h y (List.mem_append_right _ (List.mem_singleton.2 rfl))
    rw [rowsI_snoc, List.length_append, List.length_singleton]
    unfold pushR
    split
    · rename_i hc
      rw [List.length_set]
      refine ⟨by omega, fun i hi => ?_⟩
      rw [getD_set]
      have hq := h2 ((rowsI pre).length - 1) (by omega)
      by_cases e : i = (rowsI pre).length - 1 ∧ (rowsI pre).length - 1 < (rowsI pre).length
      · rw [if_pos e]; exact ⟨hq.1, by simp only []; omega⟩
      · rw [if_neg e]
        have := h2 i hi
        exact ⟨this.1, by omega⟩
    · rw [List.length_append, List.length_singleton]
      refine ⟨by omega, fun i hi => ?_⟩
      rw [getD_app_last _ _ _ _ (by omega)]
      by_cases e : i = (rowsI pre).length
      · rw [if_pos e]; exact ⟨hy, by simp only []; omega⟩
      · rw [if_neg e]
        have := h2 i (by omega)
        exact ⟨this.1, by omega⟩
theorem rowsI_bd (N : Nat) (pre : List Nat) (h : ∀ x ∈ pre, x < N) : (rowsI pre).length ≤ pre.length ∧ ∀ i, i < (rowsI pre).length → ((rowsI pre).getD i default).1 < N ∧ ((rowsI pre).getD i default).2 ≤ pre.length := rowsI_bd' N _ pre rfl h
theorem rowsI_to (S : List St) : ∀ j, rowsI (rowsTo S 1 j) = rowsL (fun k => hadS (gS S k)) j
  | 0 => rfl
  | j + 1 => by
    rw [rowsTo_step, show cntR S (j + 1) = if hadS (gS S j) then cntR S j + 1 else 0 from rfl, rowsL]
    cases hh : hadS (gS S j) with
    | false => rw [if_neg (by simp), List.append_nil]; simp only [Bool.false_eq_true, if_false]; exact rowsI_to S j
    | true =>
      rw [if_pos rfl, if_pos (by omega), Nat.add_sub_cancel, rowsI_snoc, rowsI_to S j]
      rfl
theorem rowsI_all (S : List St) : rowsI (rowsTo S 1 S.length) = rowsS S := rowsI_to S S.length
theorem rowsTo_len (S : List St) (m : Nat) : ∀ j, (rowsTo S m j).length ≤ j
  | 0 => Nat.le_refl _
  | j + 1 => by
    have := rowsTo_len S m j
    rw [rowsTo_step, List.length_append]
    split <;> simp <;> omega
theorem cell_blk {w : World} {b : Nat} {v : Value} (h : w.cell? ⟨b, 0, none⟩ = some v) : ∃ cs t f, w.heap[b]? = some (.cells cs t f) := by
  unfold World.cell? at h
  simp only [] at h
  split at h
  · rename_i cs t f e; exact ⟨cs, t, f, e⟩
  · cases h
theorem kp_row {n₀ Bo g o : Nat} {W : World} {v u : Value} {t : TypeId} (hc : Boxed W Bo t v) (hg : v.ownBlock = some g) (hn : n₀ ≤ g) (hne : g ≠ Bo) : Kp n₀ Bo W (W.setCell ⟨g, o, none⟩ u) := by
  have hcl : (W.setCell ⟨g, o, none⟩ u).cell? ⟨Bo, 0, none⟩ = W.cell? ⟨Bo, 0, none⟩ := World.cell?_of_block (Below.heap_setCell W ⟨g, o, none⟩ u Bo (fun e => hne e.symm))
  have ho : ∀ b, OwnAt (W.setCell ⟨g, o, none⟩ u) Bo b ↔ OwnAt W Bo b := fun b => by unfold OwnAt; rw [hcl]
  refine ⟨(Below.refl _ _).setCell hn _, fun b cs t f hb _ hno => Below.heap_setCell W ⟨g, o, none⟩ u b (fun e => hno ((ownAt_iff hc).2 (by rw [hg, e]))), fun b _ q => (ho b).1 q, fun q b hb => ?_⟩
  have := q b ((ho b).1 hb)
  rw [size_setCell]; exact this
def RowsP (w : World) (S : List St) (e : Ending) (w' : World) : Prop := ∃ v', e = .returned v' ∧ PKO w' w.heap.size v' (rowsS S)
set_option maxRecDepth 100000 in
set_option maxHeartbeats 2000000 in
theorem rowsX_in (n : Nat) (hn : 3 ≤ n) {w : World} {base B : Nat} {v : Value} {S : List St} (hI : IxAt w base B v S) (hS : SOk S) (hl : S.length ≤ 10000) :
    CallsIn Fence.wide n Tryd.prog 54 #[.pointer (some ⟨B, 0, none⟩)] w fun e W' => RowsP w S e W' ∧ Below w.heap.size w W' := by
  have hn1 : 1 ≤ n := by omega
  have hRo := rowsF_any B 1 (w.alloc (.cells #[.slice none 0 0] 37))
  rw [show (((1 : Nat) : Int)) = 1 from rfl] at hRo
  obtain ⟨N, hN⟩ : ∃ N, S.length = N := ⟨_, rfl⟩
  have hRl := rowsTo_len S 1 N
  have hRa := Lib.hid (show rowsI (rowsTo S 1 N) = rowsS S from by rw [← hN]; exact rowsI_all S)
  refine callsIn_of_wp_marks Tryd.func54 rfl trivial ?_ rfl
  simp only [Tryd.ntmps54, List.size_toArray, List.length_cons, List.length_nil, Nat.reduceAdd, Nat.reduceSub, Array.replicate_succ, Array.replicate_zero, List.push_toArray, List.append_toArray, List.nil_append, List.cons_append]
  gi_wp2
  refine ⟨trivial, (callsIn_wide.2 hRo).mono ?_⟩
  rintro e w2 ⟨⟨Bx, Bm, rfl, hx, hm⟩, hb2⟩
  rw [show (((1 : Nat) : Int)) = 1 from rfl] at hm
  have hA : Below w.heap.size w (w.alloc (.cells #[.slice none 0 0] 37)) := (Below.refl _ _).alloc (Nat.le_refl _) _
  have hB2 := hA.trans (hb2.mono hA.size)
  have bO := (Boxed.new w 37 (.slice none 0 0))
  replace bO : Boxed w2 w.heap.size 37 (.slice none 0 0) := (hb2.block _ bO.lt).trans bO
  have hs2 : w.heap.size < w2.heap.size := bO.lt
  obtain ⟨csm, tm, fm, hblk⟩ := cell_blk hm
  have hmne : ¬ Bm = w.heap.size := fun e => by rw [e, bO.cell] at hm; cases hm
  clear hRo hA hb2
  gi_wp2
  refine wpIn_rangeFunc_told rfl hn1 (gf := 99) (lb := #[.pointer (some ⟨Bx, 0, none⟩), .pointer (some ⟨Bm, 0, none⟩)]) rfl trivial (enters_of Tryd.func99 (by kernel_rfl) rfl)
    (encs := fun y : Nat => #[Value.int .i64 y]) (Kp := Kp w.heap.size w.heap.size) (T := fun y _ => y < N) (S := fun ys => ys = rowsTo S 1 N) (Sp := fun pre => pre <+: rowsTo S 1 N) (N := (rowsTo S 1 N).length) (w0 := w2)
    (by
      rw [← hN]
      exact fun l J Jx W hb hJ _ hY h0 => rowsK_in (n - 1) (by omega) l Bx Bm B w2.heap.size v S 1 (Nat.le_refl _) (by omega) hS hl J Jx (Kp w.heap.size w.heap.size) kp_t (fun A C h1 h2 => kp_of h2 (by omega) (by omega)) (fun A C h => h.1.size)
        (abidesN hJ) hY W hb.size (cellK5 hx hb) (fun w1 h1 => by
          have hbk := (hb.block Bm (Array.getElem?_eq_some_iff.1 hblk).1).trans hblk
          refine (World.cell?_of_block (h1.2.1 Bm csm tm fm hbk hmne (fun q => ?_))).trans (cellK5 hm hb)
          have := (ownAt_iff bO).1 ((ownAt_keep hb hs2).1 q)
          cases this) (cellK5 hI.box.cell (hB2.trans (hb.mono hB2.size))) (fun w1 h1 => ((hI.keep (hB2.trans ((hb.mono hB2.size).trans h1.1))).row.el eS_len)) h0)
    kp_t (kp_b (by omega) (by omega)) (Below.refl _ _) (fun _ => rfl)
    (fun pre W => (∃ v, Boxed W w.heap.size 37 v ∧ W.ownsRow w.heap.size 46 2 v (rowsI (pre : List Nat)).length ((rowsI pre).flatMap eP) ∧ (∀ x ∈ pre, x < N)) ∧ Below w.heap.size w W)
    (fun _ _ _ => False)
    (OwnFrom.and (Own.from (holdsRow_own w.heap.size w.heap.size 37 46 2 (fun pre : List Nat => (rowsI pre).length) (fun pre => (rowsI pre).flatMap eP) (fun pre v => ∀ x ∈ pre, x < N)) _) (ownFrom_below (Nat.le_refl _) (by omega)))
    (fun _ _ _ _ _ hs _ _ => hs)
    ⟨⟨_, bO, World.ownsRow_nil _ _ _ _, (fun x hx => by cases hx)⟩, hB2⟩
    (fun y a' W => y < N ∧ a' = { tmps := #[.pointer (some ⟨B, 0, none⟩), undef, .slice none 0 0, .pointer (some ⟨w.heap.size, 0, none⟩), .int .i64 y, undef, .pointer (some ⟨B, 0, none⟩), .func (.func 99) #[] #[.pointer (some ⟨Bx, 0, none⟩), .pointer (some ⟨Bm, 0, none⟩)], .int .i64 y, undef, undef, undef, undef, undef, undef, undef, undef, undef, undef, undef, undef, undef, undef, undef, undef, undef, undef, undef, undef, undef, undef, undef, undef, undef, undef, undef, undef, undef, undef, undef, undef, undef, undef], defers := [] })
    (fun y a' _ X Y row hs hg hr => hs)
    ?assign ?body ?done ?stop
  case assign =>
    rintro l pre y W K hIW hT hK
    gi_wp2
    exact hK _ _ (KeepsFrom.refl _ _) (kp_of (Below.refl _ _) (by have := hIW.2.size; omega) (by obtain ⟨v, hv, _⟩ := hIW.1; exact hv.lt)) hIW ⟨hT, rfl⟩
  case body =>
    rintro l pre y a' W ⟨⟨v, hv, hrow, hall⟩, hB⟩ ⟨hy, rfl⟩ hlt
    have hc := hv.cell
    have hy9 : y < 10000 := by omega
    have hall2 : ∀ x ∈ pre ++ [y], x < N := fun x hx => by
      rcases List.mem_append.1 hx with hx | hx
      · exact hall x hx
      · rw [List.mem_singleton] at hx; subst hx; exact hy
    obtain ⟨hbl, hbd⟩ := rowsI_bd N pre hall
    have hst0 := rowsI_snoc pre y
    obtain ⟨L, hL⟩ : ∃ L, (rowsI pre).length = L := ⟨_, rfl⟩
    have hform : ∃ A c, v = .slice A L c := by
      rw [← hL]
      rcases hrow.2 with ⟨h, h2⟩ | ⟨g', cap', cur, h, _⟩
      · exact ⟨none, 0, by rw [h, h2]⟩
      · exact ⟨_, _, h⟩
    obtain ⟨Av, cv, rfl⟩ := hform
    have hown : PKO W w.heap.size (.slice Av L cv) (rowsI pre) := hrow
    replace hall2 := Lib.hid hall2
    cases L with
    | zero =>
      have hst := Lib.hid (hst0.trans (push_first hL))
      have hL' := Lib.hid hL
      have hl9 : (rowsI pre).length ≤ 100000 := by omega
      clear hst0 hL hall hbd hown hbl
      gi_wp2
      refine wpIn_region_held_wr (S := (fun w' => w' = W.drew)) (by kernel_rfl) (by kernel_rfl) (by rintro ⟨_, _, h⟩; exact h) ?_ (fun hHeld => ?_)
      · (try dsimp only)
        (first | done | rfl)
      refine takeU 0 ?_
      refine takeU 1 ?_
      refine takeU 2 ?_
      refine idleQ 3 ?_
      refine idleQ 4 ?_
      refine idleQ 5 ?_
      refine idleQ 6 ?_
      refine idleQ 7 ?_
      refine idleQ 8 ?_
      refine idleQ 9 ?_
      refine idleQ 10 ?_
      refine idleQ 11 ?_
      refine idleQ 12 ?_
      refine idleQ 13 ?_
      refine idleQ 14 ?_
      refine idleQ 15 ?_
      refine takeU 16 ?_
      refine wpAnyH_done (by kernel_rfl) ?_ _
      clear hHeld
      generalize hW6 : W.drew = W6 at *
      have hown6 : PKO W6 w.heap.size (.slice Av 0 cv) (rowsI pre) := by rw [← hW6]; exact hrow
      have hv6 : Boxed W6 w.heap.size 37 (.slice Av 0 cv) := by rw [← hW6]; exact hv
      have hB6 : Below w.heap.size w W6 := by rw [← hW6]; exact hB.drew
      have hk6 : KeepsFrom w2.heap.size W W6 := by rw [← hW6]; exact (KeepsOthers.drew _).from _
      have hp6 : Kp w.heap.size w.heap.size W W6 := by rw [← hW6]; exact kp_of (Below.refl _ _).drew hB.size hv.lt
      have hne := hv6.not_row (e := 46) (by decide) hown6
      obtain ⟨v', w9, hrun, ho, hg, hl2, _⟩ := appE pT (hown6.alloc (.cells #[.int .i64 (y : Nat), .int .i64 ((1 : Nat) : Int)] (46 : Nat))) (eP_new W6 y 1 (46 : Nat)) (by have := hB6.size; simp; omega) (by omega) (by simp)
      obtain ⟨g', cap', rfl, _⟩ := ho.form (by simp)
      have ho' : w9.ownsRow w.heap.size 46 2 (.slice (some ⟨g', 0, none⟩) (rowsI pre ++ [(y, 1)]).length cap') (rowsI pre ++ [(y, 1)]).length ((rowsI pre ++ [(y, 1)]).flatMap eP) := ho
      obtain ⟨hv1, hv2, hr2, hk2, hb2⟩ := hv6.appended (by decide) hown6 hB6.size (Nat.le_refl _) ho' hg
      have hkp := kp_body (n₀ := w.heap.size) hv6 (by omega) (fun g q => (hown6.lt g q).1) hg hl2 hne (fun g q => (ho.lt g q).2)
      rw [← hst.out] at hrun hv2 hk2 hb2 hkp hr2
      have hlen1 : (rowsI (pre ++ [y])).length = 0 + 1 := by rw [hst.out, List.length_append, List.length_singleton, hL'.out]
      rw [hlen1] at hrun hv2 hk2 hb2 hkp hr2
      have hc1 := hv1.cell
      have hf1 := hv1.frozen
      have hc6 := hv6.cell
      rw [show (((1 : Nat) : Int)) = 1 from rfl] at hrun
      (try simp only [World.size_alloc] at hrun)
      replace hlen1 := Lib.hid hlen1
      replace hW6 := Lib.hid hW6
      clear hg ho ho' hown6 hrow hv hv6 hc
      gi_wp2_with (gi_at_builtin; refine wpListIn_append_run rfl _ _ 37 rfl _ _ _ rfl rfl hrun ?_)
      exact ⟨hk6.trans (hk2.from _), kp_t hp6 hkp, ⟨_, hv2, by rw [hlen1.out]; exact hr2, hall2⟩, hB6.trans hb2⟩
    | succ q =>
      obtain ⟨gR, cR, hve, hg1, hg2, hg3⟩ := hown.form (by omega)
      simp only [Value.slice.injEq] at hve
      obtain ⟨rfl, -, rfl⟩ := hve
      obtain ⟨⟨a, m⟩, hxx⟩ : ∃ y : Nat × Nat, (rowsI pre).getD q default = y := ⟨_, rfl⟩
      have hbq := hbd q (by omega)
      rw [hxx] at hbq
      simp only [] at hbq
      have r0 := OwnE.cell eP_len hown hL (i := q) (j := 0) (by omega) (by omega)
      have r1 := OwnE.cell eP_len hown hL (i := q) (j := 1) (by omega) (by omega)
      rw [hxx] at r0 r1
      obtain ⟨r0, _⟩ := r0
      obtain ⟨r1, z1⟩ := r1
      simp only [eP, Nat.add_zero, List.getElem?_cons_zero, List.getElem?_cons_succ] at r0 r1
      have hp9 : pre.length < 10000 := by omega
      have hq9 : q < 10000 := by omega
      have g1 : IntKind.i64.wrap ((a : Int) + (m : Int)) = (a : Int) + (m : Int) := by rw [IntKind.wrap_i64]; omega
      have g6 : IntKind.i64.wrap (y : Int) = (y : Int) := by rw [IntKind.wrap_i64]; omega
      have g2 : q < q + 1 := by omega
      have g5 : (q : Int) < (q : Int) + 1 := by omega
      by_cases he : a + m = y
      · have hst := Lib.hid (hst0.trans (push_more hL hxx he))
        have he' : (((a : Int) + (m : Int)) == (y : Int)) = true := by rw [beq_iff_eq]; omega
        have he2 : (a : Int) + (m : Int) = (y : Int) := by omega
        have hset := OwnE.set (x' := (a, m + 1)) (u := .int .i64 ((m + 1 : Nat) : Int)) eP_len hown hL (i := q) (j := 1) (by omega) (by omega) (by rw [hxx]; rfl)
        rw [← hst.out] at hset
        have g3 : IntKind.i64.wrap ((m : Int) + 1) = ((m + 1 : Nat) : Int) := by rw [IntKind.wrap_i64]; omega
        have g4 : (((m + 1 : Nat) : Int)) = (m : Int) + 1 := by omega
        rw [g4] at hset g3
        have hlen2 : (rowsI (pre ++ [y])).length = q + 1 := by rw [hst.out, List.length_set, hL]
        have hL' := Lib.hid hL
        have hneB : gR ≠ w.heap.size := fun e => hv.not_row (e := 46) (by decide) hrow (by rw [← e]; rfl)
        clear hst0 hL hall hbd hxx g4 hbl hbq
        replace hlen2 := Lib.hid hlen2
        gi_wp2
        refine wpIn_region_held_wr (S := (fun w' => w' = W.drew)) (by kernel_rfl) (by kernel_rfl) (by rintro ⟨_, _, h⟩; exact h) ?_ (fun hHeld => ?_)
        · (try dsimp only)
          (first | done | rfl)
        refine takeU 0 ?_
        refine takeU 1 ?_
        refine takeU 2 ?_
        refine takeU 3 ?_
        refine takeU 4 ?_
        refine takeU 5 ?_
        refine takeU 6 ?_
        refine takeU 7 ?_
        refine takeU 8 ?_
        refine takeU 9 ?_
        refine takeU 10 ?_
        refine takeU 11 ?_
        refine takeU 12 ?_
        refine takeU 13 ?_
        refine takeU 14 ?_
        refine takeU 15 ?_
        refine takeU 16 ?_
        refine wpAnyH_done (by kernel_rfl) ?_ _
        clear hHeld
        gi_wp2
        have hkp := kp_row (o := q * 2 + 1) (u := .int .i64 ((m : Int) + 1)) hv rfl hg1 hneB
        have hv3 : Boxed (W.setCell ⟨gR, q * 2 + 1, none⟩ (.int .i64 ((m : Int) + 1))) w.heap.size 37 (.slice (some ⟨gR, 0, none⟩) (q + 1) cv) := (Below.heap_setCell W ⟨gR, q * 2 + 1, none⟩ _ w.heap.size (fun e => hneB e.symm)).trans hv
        have hB3 := hB.trans hkp.1
        have hkf : KeepsFrom w2.heap.size W (W.setCell ⟨gR, q * 2 + 1, none⟩ (.int .i64 ((m : Int) + 1))) := (KeepsOthers.setCell _ _ _).from _
        have hset3 : (W.setCell ⟨gR, q * 2 + 1, none⟩ (.int .i64 ((m : Int) + 1))).ownsRow w.heap.size 46 2 (.slice (some ⟨gR, 0, none⟩) (q + 1) cv) (rowsI (pre ++ [y])).length ((rowsI (pre ++ [y])).flatMap eP) := hset
        exact ⟨hkf.trans ((KeepsOthers.drew _).from _), kp_t hkp (kp_of (Below.refl _ _).drew hB3.size hv3.lt), ⟨_, hv3, hset3, hall2.out⟩, hB3.drew⟩
      · have hst := Lib.hid (hst0.trans (push_next hL hxx he))
        have he' : (((a : Int) + (m : Int)) == (y : Int)) = false := by rw [beq_eq_false_iff_ne]; omega
        have he2 : ¬ (a : Int) + (m : Int) = (y : Int) := by omega
        have hL' := Lib.hid hL
        have hl9 : (rowsI pre).length ≤ 100000 := by omega
        clear hst0 hL hall hbd hxx hbl hbq hown
        gi_wp2
        refine wpIn_region_held_wr (S := (fun w' => w' = W.drew)) (by kernel_rfl) (by kernel_rfl) (by rintro ⟨_, _, h⟩; exact h) ?_ (fun hHeld => ?_)
        · (try dsimp only)
          (first | done | rfl)
        refine takeU 0 ?_
        refine takeU 1 ?_
        refine takeU 2 ?_
        refine takeU 3 ?_
        refine takeU 4 ?_
        refine takeU 5 ?_
        refine takeU 6 ?_
        refine takeU 7 ?_
        refine takeU 8 ?_
        refine takeU 9 ?_
        refine takeU 10 ?_
        refine takeU 11 ?_
        refine takeU 12 ?_
        refine takeU 13 ?_
        refine takeU 14 ?_
        refine takeU 15 ?_
        refine takeU 16 ?_
        refine wpAnyH_done (by kernel_rfl) ?_ _
        clear hHeld
        generalize hW6 : W.drew = W6 at *
        have hown6 : PKO W6 w.heap.size (.slice (some ⟨gR, 0, none⟩) (q + 1) cv) (rowsI pre) := by rw [← hW6]; exact hrow
        have hv6 : Boxed W6 w.heap.size 37 (.slice (some ⟨gR, 0, none⟩) (q + 1) cv) := by rw [← hW6]; exact hv
        have hB6 : Below w.heap.size w W6 := by rw [← hW6]; exact hB.drew
        have hk6 : KeepsFrom w2.heap.size W W6 := by rw [← hW6]; exact (KeepsOthers.drew _).from _
        have hp6 : Kp w.heap.size w.heap.size W W6 := by rw [← hW6]; exact kp_of (Below.refl _ _).drew hB.size hv.lt
        have hne := hv6.not_row (e := 46) (by decide) hown6
        obtain ⟨v', w9, hrun, ho, hg, hl2, _⟩ := appE pT (hown6.alloc (.cells #[.int .i64 (y : Nat), .int .i64 ((1 : Nat) : Int)] (46 : Nat))) (eP_new W6 y 1 (46 : Nat)) (by have := hB6.size; simp; omega) (by omega) (by simp)
        obtain ⟨g', cap', rfl, _⟩ := ho.form (by simp)
        have ho' : w9.ownsRow w.heap.size 46 2 (.slice (some ⟨g', 0, none⟩) (rowsI pre ++ [(y, 1)]).length cap') (rowsI pre ++ [(y, 1)]).length ((rowsI pre ++ [(y, 1)]).flatMap eP) := ho
        obtain ⟨hv1, hv2, hr2, hk2, hb2⟩ := hv6.appended (by decide) hown6 hB6.size (Nat.le_refl _) ho' hg
        have hkp := kp_body (n₀ := w.heap.size) hv6 (by omega) (fun g q => (hown6.lt g q).1) hg hl2 hne (fun g q => (ho.lt g q).2)
        rw [← hst.out] at hrun hv2 hk2 hb2 hkp hr2
        have hlen1 : (rowsI (pre ++ [y])).length = q + 1 + 1 := by rw [hst.out, List.length_append, List.length_singleton, hL'.out]
        rw [hlen1] at hrun hv2 hk2 hb2 hkp hr2
        have hc1 := hv1.cell
        have hf1 := hv1.frozen
        have hc6 := hv6.cell
        rw [show (((1 : Nat) : Int)) = 1 from rfl] at hrun
        (try simp only [World.size_alloc] at hrun)
        replace hlen1 := Lib.hid hlen1
        replace hW6 := Lib.hid hW6
        clear hg ho ho' hown6 hrow hv hv6 hc
        gi_wp2_with (gi_at_builtin; refine wpListIn_append_run rfl _ _ 37 rfl _ _ _ rfl rfl hrun ?_)
        exact ⟨hk6.trans (hk2.from _), kp_t hp6 hkp, ⟨_, hv2, by rw [hlen1.out]; exact hr2, hall2⟩, hB6.trans hb2⟩
  case done =>
    rintro D ys W hD rfl ⟨⟨v, hv, hrow, _⟩, hB⟩ hK
    have hc := hv.cell
    gi_wp2
    refine ⟨by simp, .inl ⟨_, _, rfl, run_takeDeferred hK, ?_⟩⟩
    refine ⟨_, results_tmp rfl _ _ _, ⟨v, rfl, ?_⟩, ?_⟩
    · rw [← hRa.out]
      exact ownsRow_putObj hrow _ hK rfl
    · exact hB.trans (belowK_b (w := w) (Nat.le_refl _) W D _ _ (by omega) hK rfl rfl)
  case stop =>
    rintro D c pre W _ _ h _
    exact h.elim
theorem rowsX_any {w : World} {base B : Nat} {v : Value} {S : List St} (hI : IxAt w base B v S) (hS : SOk S) (hl : S.length ≤ 10000) :
    Calls Tryd.prog 54 #[.pointer (some ⟨B, 0, none⟩)] w fun e W' => RowsP w S e W' ∧ Below w.heap.size w W' := callsIn_wide.1 (rowsX_in 3 (by omega) hI hS hl)
end Go.Proofs.YtnjifmecaeagaaaDoor
end
section
set_option linter.unusedVariables false
set_option linter.unusedSimpArgs false
namespace Go.Proofs.YtnjifmecaeagaaaDoor
open Go.Lib Go.RowKit Go.ChangeShapes Go.WideShapes Go.Deep
theorem runAt_of {c : Nat} {s : St} {j : Nat} (h1 : kN s.1 = 1) (h2 : cN s.1 = c) (h3 : firstOff (s.2.1 ||| s.2.2) (mnN c) = some j) : runAt c s = true := by
  unfold runAt
  rw [decide_eq_true h1, decide_eq_true h2, h3]; rfl
theorem first_same {p : Nat → Prop} {i j : Nat} (hi : p i) (hj : p j) (h1 : ∀ k, k < i → ¬ p k) (h2 : ∀ k, k < j → ¬ p k) : i = j := by
  rcases Nat.lt_trichotomy i j with q | q | q
  · exact absurd hi (h2 i q)
  · exact q
  · exact absurd hj (h1 j q)
/-- what is taken is one thing -/
theorem take_det {S S1 S2 : List St} {o : Option Nat} {m : Nat} {r1 r2 : Option Plc} (h1 : TakeR S o m S1 r1) (h2 : TakeR S o m S2 r2) : S1 = S2 ∧ r1 = r2 := by
  cases h1 with
  | @run c _ i j hi k1 hc hj hf =>
    cases h2 with
    | @run _ _ i2 j2 hi2 k2 hc2 hj2 hf2 =>
      obtain rfl := first_same (p := fun k => runAt c (gS S k) = true) (runAt_of k1 hc hj) (runAt_of k2 hc2 hj2) (fun k hk q => by rw [hf k hk] at q; cases q) (fun k hk q => by rw [hf2 k hk] at q; cases q)
      rw [hj] at hj2
      cases hj2
      exact ⟨rfl, rfl⟩
    | @fresh _ _ i2 hno _ _ => have := runAt_of k1 hc hj; rw [hno i hi] at this; cases this
    | @full _ _ hno _ => have := runAt_of k1 hc hj; rw [hno i hi] at this; cases this
  | @fresh c _ i hno hr hf =>
    cases h2 with
    | @run _ _ i2 j2 hi2 k2 hc2 hj2 hf2 => have := runAt_of k2 hc2 hj2; rw [hno i2 hi2] at this; cases this
    | @fresh _ _ i2 hno2 hr2 hf2 =>
      obtain rfl := first_same (p := fun k => rowHere S 1 k) hr hr2 hf hf2
      exact ⟨rfl, rfl⟩
    | @full _ _ hno2 hr2 => exact absurd hr (hr2 i)
  | @full c _ hno hr =>
    cases h2 with
    | @run _ _ i2 j2 hi2 k2 hc2 hj2 hf2 => have := runAt_of k2 hc2 hj2; rw [hno i2 hi2] at this; cases this
    | @fresh _ _ i2 hno2 hr2 hf2 => exact absurd hr2 (hr i2)
    | @full _ _ hno2 hr2 => exact ⟨rfl, rfl⟩
  | @huge _ a hr hf =>
    cases h2 with
    | @huge _ a2 hr2 hf2 =>
      obtain rfl := first_same (p := fun k => rowHere S m k) hr hr2 hf hf2
      exact ⟨rfl, rfl⟩
    | @fullH _ hr2 => exact absurd hr (hr2 a)
  | @fullH _ hr =>
    cases h2 with
    | @huge _ a2 hr2 hf2 => exact absurd hr2 (hr a2)
    | @fullH _ hr2 => exact ⟨rfl, rfl⟩
theorem IxAt.mono {w : World} {b b2 B : Nat} {v : Value} {S : List St} (h : IxAt w b B v S) (hb : b2 ≤ b) : IxAt w b2 B v S := ⟨h.box, OwnE.mono h.row hb, Nat.le_trans hb h.lo⟩
/-- an index at work, since world w0 -/
structure Sess (w0 w : World) (B : Nat) (v : Value) (S : List St) : Prop where
  ix : IxAt w w0.heap.size B v S
  ok : SOk S
  len : S.length ≤ 1000
  lw : Lw w
  bel : Below w0.heap.size w0 w
theorem Sess.keep {w0 w w1 : World} {B : Nat} {v : Value} {S : List St} (h : Sess w0 w B v S) (hb : Below w.heap.size w w1) : Sess w0 w1 B v S :=
  ⟨h.ix.keep hb, h.ok, h.len, h.lw.keep hb, h.bel.trans (hb.mono h.bel.size)⟩
theorem Sess.chg {w0 w w1 : World} {B : Nat} {v : Value} {S S1 : List St} (h : Sess w0 w B v S) (hi : IxAt w1 w0.heap.size B v S1) (hc : Chg (fun k => v.ownBlock = some k) w w1) (hS : SOk S1) (hl : S1.length = S.length) (hw : Lw w0) : Sess w0 w1 B v S1 := by
  have hb : Below w0.heap.size w w1 := hc.below (fun k q => (h.ix.row.lt k q).1) h.bel.size
  exact ⟨hi, hS, by rw [hl]; exact h.len, hw.keep (h.bel.trans hb), h.bel.trans hb⟩
theorem Sess.of_new {w0 w w1 : World} {t : List Nat} {e : Ending} (h : NewP w t e w1) (hb1 : Below w.heap.size w w1) (hb : Below w0.heap.size w0 w) (hw : Lw w0) (hr : rightT t = true) (hl : t.length ≤ 1000) : ∃ B v, e = .returned (.pointer (some ⟨B, 0, none⟩)) ∧ Sess w0 w1 B v (t.map stN) := by
  obtain ⟨B, v, he, hI⟩ := h
  rw [newS_ok hr] at hI
  have hbb := hb.trans (hb1.mono hb.size)
  exact ⟨B, v, he, hI.mono hb.size, new_sok hr, by rw [List.length_map]; exact hl, hw.keep hbb, hbb⟩
def TakeQ (w0 w : World) (B : Nat) (v : Value) (S : List St) (o : Option Nat) (m : Nat) (e : Ending) (w' : World) : Prop :=
  ∃ S' r, TakeR S o m S' r ∧ e = .returned (.tuple #[plcV r, .int .i64 (if r.isSome then 0 else 2)]) ∧ Sess w0 w' B v S' ∧ (∀ p, r = some p → TakenAt S' p) ∧ sFrom 0 S' = sFrom 0 S ∧ Chg (fun k => v.ownBlock = some k) w w'
theorem ofN_lt {n c : Nat} (h : ofN n = some c) : c < 3 := (ofN_some h).1
theorem chN_bd {n : Nat} (h : n ≤ 4096) : 1 ≤ chN n ∧ chN n ≤ 8191 := by unfold chN; omega
theorem ofN_one {n c : Nat} (h : ofN n = some c) : chN n = 1 := by have := (ofN_some h).2.2; unfold chN; omega
theorem Sess.take {w0 w : World} {B : Nat} {v : Value} {S : List St} (h : Sess w0 w B v S) (hw : Lw w0) (n : Nat) (hn : n ≤ 4096) :
    Calls Tryd.prog 39 #[.pointer (some ⟨B, 0, none⟩), .int .i64 (n : Nat)] w (TakeQ w0 w B v S (ofN n) (chN n)) := by
  refine (take_any h.ix h.ok (by have := h.len; omega) h.lw n hn).mono ?_
  rintro e w2 ⟨S', r, hT, rfl, hI, hC⟩
  obtain ⟨k1, k2, k3⟩ := take_ok h.ok hT (fun c q => ofN_lt q) (chN_bd hn).1 (chN_bd hn).2
  exact ⟨S', r, hT, rfl, h.chg hI hC k1 (len_takeR hT) hw, k3, k2, hC⟩
theorem Sess.keepOk {w0 w : World} {B : Nat} {v : Value} {S : List St} {p : Plc} (h : Sess w0 w B v S) (hw : Lw w0) (ht : TakenAt S p) :
    Calls Tryd.prog 43 #[.pointer (some ⟨B, 0, none⟩), plcV (some p)] w fun e w' => e = .returned (.bool true) ∧ Sess w0 w' B v (keepS S p.ch p.ix p.cl p.mn).2 ∧ Chg (fun k => v.ownBlock = some k) w w' := by
  refine (keep_any h.ix h.ok p.ch p.ix p.cl p.mn p.fr (by have := h.len; omega) h.lw).mono ?_
  rintro e w2 ⟨rfl, hI, hC⟩
  have hk := keep_ok h.ok ht
  exact ⟨by rw [keep_eq h.ok ht], h.chg hI hC hk.ok hk.len hw, hC⟩
theorem Sess.keepNo {w0 w : World} {B : Nat} {v : Value} {S : List St} {p : Plc} (h : Sess w0 w B v S) (hw : Lw w0) (ht : (keepS S p.ch p.ix p.cl p.mn).1 = false) :
    Calls Tryd.prog 43 #[.pointer (some ⟨B, 0, none⟩), plcV (some p)] w fun e w' => e = .returned (.bool false) ∧ Sess w0 w' B v S ∧ Chg (fun k => v.ownBlock = some k) w w' := by
  refine (keep_any h.ix h.ok p.ch p.ix p.cl p.mn p.fr (by have := h.len; omega) h.lw).mono ?_
  rintro e w2 ⟨rfl, hI, hC⟩
  have he : (keepS S p.ch p.ix p.cl p.mn).2 = S := by
    unfold keepS at ht ⊢
    split
    · rfl
    · rename_i q; rw [if_neg q] at ht; cases ht
  rw [he] at hI
  exact ⟨by rw [ht], h.chg hI hC h.ok rfl hw, hC⟩
theorem Sess.dropOk {w0 w : World} {B : Nat} {v : Value} {S : List St} {p : Plc} (h : Sess w0 w B v S) (hw : Lw w0) (ht : TakenAt S p) :
    Calls Tryd.prog 41 #[.pointer (some ⟨B, 0, none⟩), plcV (some p)] w fun e w' => e = .returned (.bool true) ∧ Sess w0 w' B v (dropS S p.ch p.ix p.cl p.mn).2 ∧ Chg (fun k => v.ownBlock = some k) w w' := by
  refine (drop_any h.ix h.ok p.ch p.ix p.cl p.mn p.fr (by have := h.len; omega) h.lw).mono ?_
  rintro e w2 ⟨rfl, hI, hC⟩
  have hk := drop_ok h.ok ht
  exact ⟨by rw [drop_eq h.ok ht], h.chg hI hC hk.ok hk.len hw, hC⟩
theorem Sess.dropNo {w0 w : World} {B : Nat} {v : Value} {S : List St} {p : Plc} (h : Sess w0 w B v S) (hw : Lw w0) (ht : (dropS S p.ch p.ix p.cl p.mn).1 = false) :
    Calls Tryd.prog 41 #[.pointer (some ⟨B, 0, none⟩), plcV (some p)] w fun e w' => e = .returned (.bool false) ∧ Sess w0 w' B v S ∧ Chg (fun k => v.ownBlock = some k) w w' := by
  refine (drop_any h.ix h.ok p.ch p.ix p.cl p.mn p.fr (by have := h.len; omega) h.lw).mono ?_
  rintro e w2 ⟨rfl, hI, hC⟩
  have he : (dropS S p.ch p.ix p.cl p.mn).2 = S := by
    unfold dropS at ht ⊢
    split
    · rfl
    · rename_i q; rw [if_neg q] at ht; cases ht
  rw [he] at hI
  exact ⟨by rw [ht], h.chg hI hC h.ok rfl hw, hC⟩
theorem Sess.freeOk {w0 w : World} {B : Nat} {v : Value} {S : List St} {p : Plc} (h : Sess w0 w B v S) (hw : Lw w0) (ht : LiveAt S p) :
    Calls Tryd.prog 45 #[.pointer (some ⟨B, 0, none⟩), plcV (some p)] w fun e w' => e = .returned (.bool true) ∧ Sess w0 w' B v (freeS S p.ch p.ix p.cl p.mn).2 ∧ Chg (fun k => v.ownBlock = some k) w w' := by
  refine (free_any h.ix h.ok p.ch p.ix p.cl p.mn p.fr (by have := h.len; omega) h.lw).mono ?_
  rintro e w2 ⟨rfl, hI, hC⟩
  have hk := free_ok h.ok ht
  exact ⟨by rw [free_eq h.ok ht], h.chg hI hC hk.ok hk.len hw, hC⟩
theorem Sess.freeNo {w0 w : World} {B : Nat} {v : Value} {S : List St} {p : Plc} (h : Sess w0 w B v S) (hw : Lw w0) (ht : (freeS S p.ch p.ix p.cl p.mn).1 = false) :
    Calls Tryd.prog 45 #[.pointer (some ⟨B, 0, none⟩), plcV (some p)] w fun e w' => e = .returned (.bool false) ∧ Sess w0 w' B v S ∧ Chg (fun k => v.ownBlock = some k) w w' := by
  refine (free_any h.ix h.ok p.ch p.ix p.cl p.mn p.fr (by have := h.len; omega) h.lw).mono ?_
  rintro e w2 ⟨rfl, hI, hC⟩
  have he : (freeS S p.ch p.ix p.cl p.mn).2 = S := by
    unfold freeS at ht ⊢
    split
    · rfl
    · rename_i q; rw [if_neg q] at ht; cases ht
  rw [he] at hI
  exact ⟨by rw [ht], h.chg hI hC h.ok rfl hw, hC⟩
theorem Sess.table {w0 w : World} {B : Nat} {v : Value} {S : List St} (h : Sess w0 w B v S) :
    Calls Tryd.prog 52 #[.pointer (some ⟨B, 0, none⟩)] w fun e w' => TabP w S e w' ∧ Below w.heap.size w w' := table_any h.ix h.ok (by have := h.len; omega) h.lw
theorem Sess.rows {w0 w : World} {B : Nat} {v : Value} {S : List St} (h : Sess w0 w B v S) :
    Calls Tryd.prog 54 #[.pointer (some ⟨B, 0, none⟩)] w fun e w' => RowsP w S e w' ∧ Below w.heap.size w w' := rowsX_any h.ix h.ok (by have := h.len; omega)
/-- a place that lies in a box -/
structure PlAt (w : World) (D : Nat) (a b c d : Int) (f : Bool) : Prop where
  blk : w.heap[D]? = some (.cells #[.int .i64 a, .int .i64 b, .int .i64 c, .int .i64 d, .bool f] 62 (0, 0))
theorem PlAt.new (w : World) (a b c d : Int) (f : Bool) : PlAt (w.alloc (.cells #[.int .i64 a, .int .i64 b, .int .i64 c, .int .i64 d, .bool f] 62)) w.heap.size a b c d f := ⟨World.alloc_heap_new w _⟩
theorem PlAt.lt {w : World} {D : Nat} {a b c d : Int} {f : Bool} (h : PlAt w D a b c d f) : D < w.heap.size := (Array.getElem?_eq_some_iff.1 h.blk).1
theorem PlAt.keep {w w1 : World} {D : Nat} {a b c d : Int} {f : Bool} (h : PlAt w D a b c d f) (hb : Below w.heap.size w w1) : PlAt w1 D a b c d f := ⟨(hb.block D h.lt).trans h.blk⟩
theorem PlAt.chg {w w1 : World} {D : Nat} {a b c d : Int} {f : Bool} {P : Nat → Prop} (h : PlAt w D a b c d f) (hc : Chg P w w1) (hn : ¬ P D) : PlAt w1 D a b c d f := ⟨(hc.block D h.lt hn).trans h.blk⟩
theorem PlAt.cells {w : World} {D : Nat} {a b c d : Int} {f : Bool} (h : PlAt w D a b c d f) : w.cell? ⟨D, 0, none⟩ = some (.int .i64 a) ∧ w.cell? ⟨D, 1, none⟩ = some (.int .i64 b) ∧ w.cell? ⟨D, 2, none⟩ = some (.int .i64 c) ∧ w.cell? ⟨D, 3, none⟩ = some (.int .i64 d) ∧ w.cell? ⟨D, 4, none⟩ = some (.bool f) :=
  ⟨(row_cell h.blk 0).1, (row_cell h.blk 1).1, (row_cell h.blk 2).1, (row_cell h.blk 3).1, (row_cell h.blk 4).1⟩
theorem Sess.notOwn {w0 w : World} {B D : Nat} {v : Value} {S : List St} (h : Sess w0 w B v S) (hD : w.heap.size ≤ D) : ¬ v.ownBlock = some D := fun q => by have := (h.ix.row.lt D q).2; omega
end Go.Proofs.YtnjifmecaeagaaaDoor
end
section
set_option linter.unusedVariables false
set_option linter.unusedSimpArgs false
namespace Go.Proofs.YtnjifmecaeagaaaDoor
open Go.Lib Go.RowKit Go.ChangeShapes Go.WideShapes Go.Deep
theorem Sess.other2 {F : Nat → Prop} {w0 w w1 : World} {B n : Nat} {v : Value} {S : List St} (h : Sess w0 w B v S) (hw : Lw w0) (hc : Chg F w w1) (hF : ∀ k, F k → n ≤ k) (hn : w0.heap.size ≤ n) (hB : B < n) (hv : ∀ k, v.ownBlock = some k → k < n) : Sess w0 w1 B v S := by
  have hb : Below w0.heap.size w w1 := hc.below (fun k q => Nat.le_trans hn (hF k q)) h.bel.size
  exact ⟨h.ix.chg hc (fun q => by have := hF _ q; omega) (fun k q f => by have := hF _ f; have := hv k q; omega), h.ok, h.len, hw.keep (h.bel.trans hb), h.bel.trans hb⟩
end Go.Proofs.YtnjifmecaeagaaaDoor
end
section
set_option linter.unusedVariables false
set_option linter.unusedSimpArgs false
namespace Go.Proofs.YtnjifmecaeagaaaDoor
open Go.Lib Go.RowKit Go.ChangeShapes Go.WideShapes Go.Deep
theorem Sess.takeIs {w0 w : World} {B : Nat} {v : Value} {S S1 : List St} {r : Option Plc} (h : Sess w0 w B v S) (hw : Lw w0) (n : Nat) (hn : n ≤ 4096) (hT : TakeR S (ofN n) (chN n) S1 r) :
    Calls Tryd.prog 39 #[.pointer (some ⟨B, 0, none⟩), .int .i64 (n : Nat)] w fun e w' => e = .returned (.tuple #[plcV r, .int .i64 (if r.isSome then 0 else 2)]) ∧ Sess w0 w' B v S1 ∧ Chg (fun k => v.ownBlock = some k) w w' := by
  refine (h.take hw n hn).mono ?_
  rintro e w2 ⟨S', r', hT', rfl, h2, _, _, hC⟩
  obtain ⟨rfl, rfl⟩ := take_det hT hT'
  exact ⟨rfl, h2, hC⟩
theorem aw_new : ([0, 0] : List Nat).map stN = [(0, 0, 0), (0, 0, 0)] := by decide
theorem aw_t1 : TakeR [(0, 0, 0), (0, 0, 0)] (ofN 2) (chN 2) [(1, 0, 1), (0, 0, 0)] (some ⟨0, 0, 0, 0, true⟩) :=
  TakeR.fresh (S := [(0, 0, 0), (0, 0, 0)]) (c := 0) (m := 1) (i := 0) (by decide) (by unfold rowHere; decide) (fun k hk => by omega)
theorem aw_t2 : TakeR [(1, 0, 1), (0, 0, 0)] (ofN 2) (chN 2) [(1, 0, 3), (0, 0, 0)] (some ⟨0, 1, 0, 0, false⟩) :=
  TakeR.run (S := [(1, 0, 1), (0, 0, 0)]) (c := 0) (m := 1) (i := 0) (j := 1) (by decide) (by decide) (by decide) (by decide) (fun k hk => by omega)
theorem aw_t3 : TakeR [(1, 0, 3), (0, 0, 0)] (ofN 15) (chN 15) [(1, 0, 3), (2050, 0, 1)] (some ⟨1, 0, -1, 1, false⟩) :=
  TakeR.huge (S := [(1, 0, 3), (0, 0, 0)]) (m := 1) (a := 1) (by unfold rowHere; decide) (fun k hk => by
    obtain rfl : k = 0 := by omega
    unfold rowHere; decide)
theorem aw_t4 : TakeR [(1, 0, 3), (2050, 0, 1)] (ofN 15) (chN 15) [(1, 0, 3), (2050, 0, 1)] none :=
  TakeR.fullH (S := [(1, 0, 3), (2050, 0, 1)]) (m := 1) (fun k => by
    by_cases h : k < 2
    · have : k = 0 ∨ k = 1 := by omega
      rcases this with rfl | rfl <;> (unfold rowHere; decide)
    · unfold rowHere; simp only [List.length_cons, List.length_nil]; omega)
theorem aw_keep : TakenAt [(1, 0, 3), (2050, 0, 1)] ⟨0, 1, 0, 0, false⟩ ∧ (keepS [(1, 0, 3), (2050, 0, 1)] 0 1 0 0).2 = [(1, 2, 1), (2050, 0, 1)] := by unfold TakenAt; decide
theorem aw_table : tableS [(1, 2, 1), (2050, 0, 1)] = [33554433, 0] := by decide +kernel
theorem aw_drop : TakenAt [(1, 2, 1), (2050, 0, 1)] ⟨0, 0, 0, 0, true⟩ ∧ (dropS [(1, 2, 1), (2050, 0, 1)] 0 0 0 0).2 = [(1, 2, 0), (2050, 0, 1)] := by unfold TakenAt; decide
theorem aw_rows17 : rowsS [(1, 2, 0), (2050, 0, 1)] = [] := by decide
theorem aw_right17 : rightT [0, 0] = true := by decide
set_option maxRecDepth 10000 in
set_option maxHeartbeats 2000000 in
theorem awake17 (w : World) (hw : Lw w) : Calls Tryd.prog 35 #[] w fun e w' => e = .returned (.bool true) ∧ Below w.heap.size w w' := by
  have hb0 : Below w.heap.size w (w.alloc (.cells #[.int .u64 0, .int .u64 0] (27 : Nat))) := (Below.refl _ _).alloc (Nat.le_refl _) _
  have hl0 : KL .u64 (w.alloc (.cells #[.int .u64 0, .int .u64 0] (27 : Nat))) (.slice (some ⟨w.heap.size, 0, none⟩) 2 2) [0, 0] := KL.lit w [0, 0] (by decide)
  have hNw := new_any _ _ _ (hw.keep hb0) hl0 (by unfold WL; decide) (by decide)
  have hT1 := Lib.hid (fun (w1 : World) (B : Nat) (v : Value) (h : Sess w w1 B v [(0, 0, 0), (0, 0, 0)]) => h.takeIs hw 2 (by decide) aw_t1)
  have hT2 := Lib.hid (fun (w1 : World) (B : Nat) (v : Value) (h : Sess w w1 B v [(1, 0, 1), (0, 0, 0)]) => h.takeIs hw 2 (by decide) aw_t2)
  have hT3 := Lib.hid (fun (w1 : World) (B : Nat) (v : Value) (h : Sess w w1 B v [(1, 0, 3), (0, 0, 0)]) => h.takeIs hw 15 (by decide) aw_t3)
  have hT4 := Lib.hid (fun (w1 : World) (B : Nat) (v : Value) (h : Sess w w1 B v [(1, 0, 3), (2050, 0, 1)]) => h.takeIs hw 15 (by decide) aw_t4)
  have hKp := Lib.hid (fun (w1 : World) (B : Nat) (v : Value) (h : Sess w w1 B v [(1, 0, 3), (2050, 0, 1)]) => h.keepOk hw aw_keep.1)
  have hDr := Lib.hid (fun (w1 : World) (B : Nat) (v : Value) (h : Sess w w1 B v [(1, 2, 1), (2050, 0, 1)]) => h.dropOk hw aw_drop.1)
  have hTa := Lib.hid (fun (w1 : World) (B : Nat) (v : Value) (h : Sess w w1 B v [(1, 2, 1), (2050, 0, 1)]) => h.table)
  have hRo := Lib.hid (fun (w1 : World) (B : Nat) (v : Value) (h : Sess w w1 B v [(1, 2, 0), (2050, 0, 1)]) => h.rows)
  have hWd := Lib.hid (fun v u w (h1 : KL .u64 w v [33554433, 0]) (h2 : KL .u64 w u [33554433, 0]) => words_any v u _ _ w (by decide) h1 h2)
  have d1 : decide (([33554433, 0] : List Nat) = [33554433, 0]) = true := by decide
  rw [d1] at hWd
  clear d1
  have hLw := Lib.hid (fun (w : World) => show KL .u64 (w.alloc (.cells #[.int .u64 33554433, .int .u64 0] (27 : Nat))) (.slice (some ⟨w.heap.size, 0, none⟩) 2 2) [33554433, 0] from KL.lit w [33554433, 0] (by decide))
  have hSn := Lib.hid (fun (w1 : World) (e : Ending) (h : NewP (w.alloc (.cells #[.int .u64 0, .int .u64 0] (27 : Nat))) [0, 0] e w1) (hb1 : Below (w.alloc (.cells #[.int .u64 0, .int .u64 0] (27 : Nat))).heap.size (w.alloc (.cells #[.int .u64 0, .int .u64 0] (27 : Nat))) w1) => Sess.of_new h hb1 hb0 hw aw_right17 (by decide))
  clear hw hl0 hb0
  go_enter Tryd.func35, Tryd.ntmps35
  go_wp2_with fail
  refine hNw.mono ?_
  rintro e w1 ⟨hP, hb1⟩
  obtain ⟨B, v, rfl, hS1⟩ := hSn.out _ _ hP hb1
  rw [aw_new] at hS1
  have hX := hT1.out _ _ _ hS1
  clear hNw hP hb1 hSn hT1
  go_wp2_with fail
  refine hX.mono ?_
  rintro e w2 ⟨he, hS2, _⟩
  replace he : e = .returned (.tuple #[plV 0 0 0 0 true, .int .i64 0]) := he
  subst he
  have pa := PlAt.new w2 0 0 0 0 true
  have hn2 := hS2.notOwn (Nat.le_refl _)
  have hA := (Below.refl w2.heap.size w2).alloc (Nat.le_refl _) (.cells #[.int .i64 0, .int .i64 0, .int .i64 0, .int .i64 0, .bool true] 62)
  replace hS2 := hS2.keep hA
  have hX2 := hT2.out _ _ _ hS2
  clear hX hA hS1
  go_wp2_with fail
  generalize w2.heap.size = D1 at *
  refine hX2.mono ?_
  rintro e w3 ⟨he, hS3, hC3⟩
  replace he : e = .returned (.tuple #[plV 0 1 0 0 false, .int .i64 0]) := he
  subst he
  replace pa := pa.chg hC3 hn2
  have pb := PlAt.new w3 0 1 0 0 false
  have hn3 := hS3.notOwn (Nat.le_refl _)
  have hA := (Below.refl w3.heap.size w3).alloc (Nat.le_refl _) (.cells #[.int .i64 0, .int .i64 1, .int .i64 0, .int .i64 0, .bool false] 62)
  replace pa := pa.keep hA
  replace hS3 := hS3.keep hA
  have hX3 := hT3.out _ _ _ hS3
  clear hX2 hC3 hA hS2
  go_wp2_with fail
  generalize w3.heap.size = D2 at *
  refine hX3.mono ?_
  rintro e w4 ⟨he, hS4, hC4⟩
  replace he : e = .returned (.tuple #[plV 1 0 (-1) 1 false, .int .i64 0]) := he
  subst he
  replace pa := pa.chg hC4 hn2
  replace pb := pb.chg hC4 hn3
  have pc := PlAt.new w4 1 0 (-1) 1 false
  have hn4 := hS4.notOwn (Nat.le_refl _)
  have hA := (Below.refl w4.heap.size w4).alloc (Nat.le_refl _) (.cells #[.int .i64 1, .int .i64 0, .int .i64 (-1), .int .i64 1, .bool false] 62)
  replace pa := pa.keep hA
  replace pb := pb.keep hA
  replace hS4 := hS4.keep hA
  have hX4 := hT4.out _ _ _ hS4
  clear hX3 hC4 hA hS3
  go_wp2_with fail
  generalize w4.heap.size = D3 at *
  refine hX4.mono ?_
  rintro e w5 ⟨he, hS5, hC5⟩
  replace he : e = .returned (.tuple #[plV 0 0 0 0 false, .int .i64 2]) := he
  subst he
  replace pa := pa.chg hC5 hn2
  replace pb := pb.chg hC5 hn3
  replace pc := pc.chg hC5 hn4
  have hA := (Below.refl w5.heap.size w5).alloc (Nat.le_refl _) (.cells #[.int .i64 0, .int .i64 0, .int .i64 0, .int .i64 0, .bool false] 62)
  replace pa := pa.keep hA
  replace pb := pb.keep hA
  replace pc := pc.keep hA
  replace hS5 := hS5.keep hA
  have hX5 : Calls Tryd.prog 43 #[.pointer (some ⟨B, 0, none⟩), plV 0 1 0 0 false] _ _ := hKp.out _ _ _ hS5
  obtain ⟨c0, c1, c2, c3, c4⟩ := pb.cells
  clear hX4 hC5 hA hS4
  go_wp2_with fail
  refine hX5.mono ?_
  rintro e w6 ⟨rfl, hS6, hC6⟩
  replace hS6 : Sess w w6 B v (keepS [(1, 0, 3), (2050, 0, 1)] 0 1 0 0).2 := hS6
  rw [aw_keep.2] at hS6
  replace pa := pa.chg hC6 hn2
  replace pb := pb.chg hC6 hn3
  replace pc := pc.chg hC6 hn4
  have hX6 := hTa.out _ _ _ hS6
  clear hX5 hC6 hS5 c0 c1 c2 c3 c4
  go_wp2_with fail
  refine hX6.mono ?_
  rintro e w7 ⟨⟨v7, rfl, ho7⟩, hb7⟩
  rw [aw_table] at ho7
  replace hS6 := hS6.keep hb7
  replace pa := pa.keep hb7
  replace pb := pb.keep hb7
  replace pc := pc.keep hb7
  have hk7 := ho7.kl
  have hA := (Below.refl w7.heap.size w7).alloc (Nat.le_refl _) (.cells #[.int .u64 33554433, .int .u64 0] (27 : Nat))
  have hX7 := hWd.out _ _ _ (hk7.keep hA) (hLw.out w7)
  obtain ⟨a0, a1, a2, a3, a4⟩ := pa.cells
  obtain ⟨b0, b1, b2, b3, b4⟩ := pb.cells
  obtain ⟨c0, c1, c2, c3, c4⟩ := pc.cells
  replace pa := pa.keep hA
  replace hS6 := hS6.keep hA
  clear hX6 hb7 ho7 hk7 hA hn3 hn4 pb pc
  go_wp2_with fail
  refine hX7.mono ?_
  rintro e w8 ⟨rfl, hb8⟩
  replace pa := pa.keep hb8
  replace hS6 := hS6.keep hb8
  obtain ⟨d0, d1, d2, d3, d4⟩ := pa.cells
  have hX8 : Calls Tryd.prog 41 #[.pointer (some ⟨B, 0, none⟩), plV 0 0 0 0 true] _ _ := hDr.out _ _ _ hS6
  clear hX7 hb8 pa a0 a1 a2 a3 a4 b0 b1 b2 b3 b4 c0 c1 c2 c3 c4
  go_wp2_with fail
  refine hX8.mono ?_
  rintro e w9 ⟨rfl, hS9, _⟩
  replace hS9 : Sess w w9 B v (dropS [(1, 2, 1), (2050, 0, 1)] 0 0 0 0).2 := hS9
  rw [aw_drop.2] at hS9
  have hX9 := hRo.out _ _ _ hS9
  clear hX8 d0 d1 d2 d3 d4 hS6
  go_wp2_with fail
  refine hX9.mono ?_
  rintro e w10 ⟨⟨v10, rfl, ho10⟩, hb10⟩
  rw [aw_rows17] at ho10
  obtain ⟨A10, c10, rfl, _⟩ := PKL.form (ho10.el eP_len) (n := 0) rfl
  have hS10 := hS9.keep hb10
  clear ho10 hX9 hb10
  go_wp2_with fail
  go_ret
  exact ⟨rfl, hS10.bel⟩
end Go.Proofs.YtnjifmecaeagaaaDoor
end
