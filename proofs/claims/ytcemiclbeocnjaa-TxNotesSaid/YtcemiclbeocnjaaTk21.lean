/-
  The laws of package tx: TxNotes.
-/
import Derived.Test.YtcemiclbeocnjaaTk20
set_option linter.unusedVariables false
set_option linter.unusedSimpArgs false
namespace Go.Proofs.Ytcemiclbeocnjaa
open Go.RowKit Go.ChangeShapes Go.WideShapes Go.Deep Go.Maps
attribute [local irreducible] wpList

theorem cntP_mono (p q : Int → Bool) (lo : Int) (h : ∀ z, p z = true → q z = true) : ∀ n, cntP p lo n ≤ cntP q lo n
  | 0 => Int.le_refl _
  | n + 1 => by
    have := cntP_mono p q lo h n
    simp only [cntP]
    cases hp : p (lo + n) with
    | false => simp only [Bool.false_eq_true, if_false]; split <;> omega
    | true => rw [h _ hp]; simp only [if_true]; omega
theorem miss_tot {l : List Sp} {a b : Int} (hl : Ok l) (ha : 0 ≤ a) (hb : 0 ≤ b) (hab : a + b ≤ 300) : totS (missS l (a, b)) ≤ b ∧ 0 ≤ totS (missS l (a, b)) := by
  have hm := hl.miss (inn ha hab)
  have h1 := tot_cnt 0 300 (missS l (a, b)) hm.right (fun x hx => by have := hm.span hx; omega)
  have h2 := cntP_mono (hasB (missS l (a, b))) (fun w => decide (a ≤ w) && decide (w < a + b)) 0 (fun z hz => by
    have := ((missS_has hl.right z).1 ((hasB_iff _ _).1 hz)).1
    unfold SIn at this
    simpa using this) 300
  rw [cntP_in (a, b) 0 ha hb 300] at h2
  simp only [] at h2
  have h3 := len_tot (l := missS l (a, b)) hm.right.1
  omega
theorem Rel.noted_may {s : St} {r : Rf} {k : Nat} (h : Rel s r k) {a : Int} {n : Nat} (ha : 0 ≤ a) (hab : a + n ≤ 300) :
    (missS (mayL { s with noted := noteS s.noted (missS (mayL s) (a, (n : Int))) }) (a, (n : Int)) = [] ∧ covS (mayL { s with noted := noteS s.noted (missS (mayL s) (a, (n : Int))) }) (a, (n : Int)) = true) ∧
    (rightB (missS (mayL s) (a, (n : Int))) = true ∧ rightB (noteS s.noted (missS (mayL s) (a, (n : Int)))) = true) ∧ ∀ y ∈ missS (mayL s) (a, (n : Int)), covS (noteS s.noted (missS (mayL s) (a, (n : Int)))) y = true := by
  have h1 := h.note ha hab
  have hm := h.mayOk.miss (inn ha hab)
  have hN := noteS_has _ _ h.ok (fun x hx => hm.inn hx)
  have hall : ∀ z, SIn (a, (n : Int)) z → SHas (mayL { s with noted := noteS s.noted (missS (mayL s) (a, (n : Int))) }) z := fun z hz => by
    refine (allS_has _ _ h1.ok (made_good h1.keys h1.fr) z).2 ?_
    rcases Classical.em (SHas (mayL s) z) with q | q
    · rcases (allS_has _ _ h.ok (made_good h.keys h.fr) z).1 q with q | q
      · exact .inl ((hN z).2 (.inl q))
      · exact .inr q
    · exact .inl ((hN z).2 (.inr ((missS_has h.mayOk.right z).2 ⟨hz, q⟩)))
  refine ⟨⟨?_, (covS_iff h1.mayOk.right).2 hall⟩, ⟨(rightB_iff _).2 hm.right, (rightB_iff _).2 h1.ok.right⟩, fun y hy => (covS_iff h1.ok.right).2 (fun z hz => (hN z).2 (.inr ⟨y, hy, hz⟩))⟩
  rw [(missS_right h1.mayOk.right).empty]
  intro z hz
  have := (missS_has h1.mayOk.right z).1 hz
  exact this.2 (hall z this.1)

set_option maxRecDepth 10000 in
set_option maxHeartbeats 8000000 in
theorem txNotes (v : Value) (l : List Ox) (a b : Int) (w : World) (hl : OL l) (hv : OPL w v l) (ha : I64 a) (hb : I64 b) :
    Calls Try.prog 7 #[v, .agg #[.int .i64 a, .int .i64 b]] w fun e w' => e = .returned (.bool true) ∧ Below w.heap.size w w' := by
  obtain ⟨n, hn⟩ : ∃ n, l.length = n := ⟨_, rfl⟩
  obtain ⟨w0, hw0⟩ : ∃ w0, w.alloc (.cells #[.int .i64 a, .int .i64 b] (63 : Nat)) = w0 := ⟨_, rfl⟩
  have hb0 : Below w.heap.size w w0 := by rw [← hw0]; exact (Below.refl _ w).alloc (Nat.le_refl _) _
  have kk : C2 w0 w.heap.size (.int .i64 a) (.int .i64 b) := by rw [← hw0]; exact C2.new w _ _ _
  have hs0 : w0.heap.size = w.heap.size + 1 := by rw [← hw0]; simp
  have hAw := awake_any w0
  have hFw := Lib.hid (fun (w1 : World) (hb : Below w0.heap.size w0 w1) => few_any v l w1 hl (hv.keep (hb0.trans (hb.mono hb0.size))))
  obtain ⟨A, cap, rfl, hC⟩ := EL.form (hv.keep hb0) hn
  replace hC := Lib.hid hC
  have hn9 : n ≤ 9223372036854775807 := by have := hl.1; omega
  have hnn := Lib.hid hn
  obtain ⟨ha1, ha2⟩ := ha
  obtain ⟨hb1', hb2'⟩ := hb
  have hb0h := Lib.hid hb0
  clear hv hl hn hb0
  by_cases q0 : a < 0
  · have t0 : decide (a < 0) = true := decide_eq_true q0
    clear hC hnn
    go_enter Try.func7, Try.ntmps7
    go_wp2_with (first
    | (go_at_call 29; refine hAw.mono ?_; rintro e w1 ⟨rfl, hb1⟩
       have hF1 := hFw.out w1 hb1
       obtain ⟨k0, k1⟩ := kk.keep hb1
       clear hAw)
    | (go_at_call 30; refine hF1.mono ?_; rintro e w2 ⟨⟨t, rfl, ht⟩, hb2⟩
       have hb2w := hb1.trans (hb2.mono hb1.size)
       obtain ⟨k0, k1⟩ := kk.keep hb2w
       replace ht := Lib.hid ht
       clear hF1
       cases t))
    all_goals
      go_ret
      exact ⟨rfl, hb0h.out.trans (hb2w.mono (by omega))⟩
  have t0 : decide (a < 0) = false := decide_eq_false q0
  by_cases q1 : 200 < a
  · have t1 : decide (200 < a) = true := decide_eq_true q1
    clear hC hnn
    go_enter Try.func7, Try.ntmps7
    go_wp2_with (first
    | (go_at_call 29; refine hAw.mono ?_; rintro e w1 ⟨rfl, hb1⟩
       have hF1 := hFw.out w1 hb1
       obtain ⟨k0, k1⟩ := kk.keep hb1
       clear hAw)
    | (go_at_call 30; refine hF1.mono ?_; rintro e w2 ⟨⟨t, rfl, ht⟩, hb2⟩
       have hb2w := hb1.trans (hb2.mono hb1.size)
       obtain ⟨k0, k1⟩ := kk.keep hb2w
       replace ht := Lib.hid ht
       clear hF1
       cases t))
    all_goals
      go_ret
      exact ⟨rfl, hb0h.out.trans (hb2w.mono (by omega))⟩
  have t1 : decide (200 < a) = false := decide_eq_false q1
  by_cases q2 : b < 0
  · have t2 : decide (b < 0) = true := decide_eq_true q2
    clear hC hnn
    go_enter Try.func7, Try.ntmps7
    go_wp2_with (first
    | (go_at_call 29; refine hAw.mono ?_; rintro e w1 ⟨rfl, hb1⟩
       have hF1 := hFw.out w1 hb1
       obtain ⟨k0, k1⟩ := kk.keep hb1
       clear hAw)
    | (go_at_call 30; refine hF1.mono ?_; rintro e w2 ⟨⟨t, rfl, ht⟩, hb2⟩
       have hb2w := hb1.trans (hb2.mono hb1.size)
       obtain ⟨k0, k1⟩ := kk.keep hb2w
       replace ht := Lib.hid ht
       clear hF1
       cases t))
    all_goals
      go_ret
      exact ⟨rfl, hb0h.out.trans (hb2w.mono (by omega))⟩
  have t2 : decide (b < 0) = false := decide_eq_false q2
  by_cases q3 : 60 < b
  · have t3 : decide (60 < b) = true := decide_eq_true q3
    clear hC hnn
    go_enter Try.func7, Try.ntmps7
    go_wp2_with (first
    | (go_at_call 29; refine hAw.mono ?_; rintro e w1 ⟨rfl, hb1⟩
       have hF1 := hFw.out w1 hb1
       obtain ⟨k0, k1⟩ := kk.keep hb1
       clear hAw)
    | (go_at_call 30; refine hF1.mono ?_; rintro e w2 ⟨⟨t, rfl, ht⟩, hb2⟩
       have hb2w := hb1.trans (hb2.mono hb1.size)
       obtain ⟨k0, k1⟩ := kk.keep hb2w
       replace ht := Lib.hid ht
       clear hF1
       cases t))
    all_goals
      go_ret
      exact ⟨rfl, hb0h.out.trans (hb2w.mono (by omega))⟩
  have t3 : decide (60 < b) = false := decide_eq_false q3
  obtain ⟨bn, rfl⟩ := Int.eq_ofNat_of_zero_le (show 0 ≤ b by omega)
  go_enter Try.func7, Try.ntmps7
  go_wp2_with (first
    | (go_at_call 29; refine hAw.mono ?_; rintro e w1 ⟨rfl, hb1⟩
       have hF1 := hFw.out w1 hb1
       obtain ⟨k0, k1⟩ := kk.keep hb1
       clear hAw)
    | (go_at_call 30; refine hF1.mono ?_; rintro e w2 ⟨⟨t, rfl, ht⟩, hb2⟩
       have hb2w := hb1.trans (hb2.mono hb1.size)
       obtain ⟨k0, k1⟩ := kk.keep hb2w
       replace ht := Lib.hid ht
       clear hF1
       cases t)
    | (go_at_call 31; refine (new_N w2).mono ?_; rintro e w3 ⟨B, F, rfl, T0⟩))
  · go_ret
    exact ⟨rfl, hb0h.out.trans (hb2w.mono (by omega))⟩
  have hsz2 := hb2w.size
  have hFL := Lib.hid (ht.out (by first | trivial | rfl))
  have hD0 := start_both T0
  obtain ⟨B2, hB2e⟩ : ∃ B2, w3.heap.size = B2 := ⟨_, rfl⟩
  rw [hB2e] at hD0 ⊢
  have hn40 : n ≤ 40 := by have := hFL.out.2; have := hnn.out; omega
  clear T0 hB2e ht hFw t0 t1 t2 t3 k0 k1
  go_loopw [9] (fun i wr => ∃ k : Nat, k ≤ n ∧ i = .int .i64 k ∧ DoP w2 B B2 k wr) (fun i _ => n + 1 - (intOf i).toNat)
  case atStart => exact ⟨0, Nat.zero_le _, rfl, hD0⟩
  case round =>
    clear hD0
    obtain ⟨k, hk, rfl, hD⟩ := hrel
    have hB := hb2w.trans (hD.bel.mono hsz2)
    by_cases hlt : k < n
    · obtain ⟨g, off, rfl, hcap, _, hg, hcl⟩ := hC.out wr k hB hlt
      have hlt' : (k : Int) < (n : Int) := by omega
      have hfo := fewO_at hFL.out (k := k) (by have := hnn.out; omega)
      generalize l.getD k default = o at *
      have hDo := do_any o hD (by omega) hfo
      obtain ⟨kd, ⟨fr, mn⟩, ⟨a1, a2, a3, a4, a5⟩, at_, a7, sz, a9⟩ := o
      have c0 : wr.cell? ⟨g, off + k * 12, none⟩ = some (.int .u8 (kd : Nat)) := hcl 0 (by omega)
      have c1 : wr.cell? ⟨g, off + k * 12 + 1, none⟩ = some (.int .i64 fr) := hcl 1 (by omega)
      have c2 : wr.cell? ⟨g, off + k * 12 + 2, none⟩ = some (.int .i64 mn) := hcl 2 (by omega)
      have c3 : wr.cell? ⟨g, off + k * 12 + 3, none⟩ = some (.int .i64 a1) := hcl 3 (by omega)
      have c4 : wr.cell? ⟨g, off + k * 12 + 4, none⟩ = some (.int .i64 a2) := hcl 4 (by omega)
      have c5 : wr.cell? ⟨g, off + k * 12 + 5, none⟩ = some (.int .i64 a3) := hcl 5 (by omega)
      have c6 : wr.cell? ⟨g, off + k * 12 + 6, none⟩ = some (.int .i64 a4) := hcl 6 (by omega)
      have c7 : wr.cell? ⟨g, off + k * 12 + 7, none⟩ = some (.bool a5) := hcl 7 (by omega)
      have c8 : wr.cell? ⟨g, off + k * 12 + 8, none⟩ = some (.int .i64 at_) := hcl 8 (by omega)
      have c9 : wr.cell? ⟨g, off + k * 12 + 9, none⟩ = some (.int .i64 a7) := hcl 9 (by omega)
      have c10 : wr.cell? ⟨g, off + k * 12 + 10, none⟩ = some (.int .i64 sz) := hcl 10 (by omega)
      have c11 : wr.cell? ⟨g, off + k * 12 + 11, none⟩ = some (.int .u64 a9) := hcl 11 (by omega)
      simp only [oE, fE] at hDo
      clear hcl hfo
      go_wp2_with (go_at_call 32; refine hDo.mono ?_; rintro e w4 ⟨rfl, hD4⟩; clear hDo)
      go_roundw
      case rel => exact ⟨k + 1, by omega, by go_num, hD4⟩
      case measure => simp [intOf]; omega
    · obtain rfl : k = n := by omega
      obtain ⟨F1, s, G, r, hbn, hr⟩ := hD
      have hT := hbn.tx
      have hab : a + (bn : Int) ≤ 300 := by omega
      have ha0 : 0 ≤ a := by omega
      obtain ⟨⟨z1, z2⟩, ⟨z3, z4⟩, z5⟩ := hr.noted_may (a := a) (n := bn) ha0 hab
      have hr1 := hr.note (a := a) (n := bn) ha0 hab
      obtain ⟨zt, zt0⟩ := miss_tot (a := a) (b := bn) hr.mayOk ha0 (by omega) hab
      have hLk := (hr.mayOk.miss (inn (a := a) (b := bn) ha0 hab))
      have hMy := may_N (a := a) (b := bn) hT (hr.goodS (by omega)) (by unfold SB; simp only []; omega)
      have hcv : covS (mayL s) (a, (bn : Int)) = (missS (mayL s) (a, (bn : Int))).isEmpty := rfl
      rw [hcv] at hMy
      have hNt := Lib.hid (fun (w5 : World) (h : TxN w2 w5 B F1 s) => note_N (a := a) (b := bn) h (hr.goodS (by omega)) (by unfold SB; simp only []; omega) (inn ha0 hab))
      have hNt2 := Lib.hid (fun (w5 : World) (F5 : Nat → Prop) (h : TxN w2 w5 B F5 { s with noted := noteS s.noted (missS (mayL s) (a, (bn : Int))) }) => note_N (a := a) (b := bn) h (hr1.goodS (by omega)) (by unfold SB; simp only []; omega) (inn ha0 hab))
      have hMy2 := Lib.hid (fun (w5 : World) (F5 : Nat → Prop) (h : TxN w2 w5 B F5 { s with noted := noteS s.noted (missS (mayL s) (a, (bn : Int))) }) => may_N (a := a) (b := bn) h (hr1.goodS (by omega)) (by unfold SB; simp only []; omega))
      rw [z1] at hNt2
      rw [z2] at hMy2
      have hok1 := hr1.ok
      simp only [] at hok1
      obtain ⟨L, hL⟩ : ∃ L, missS (mayL s) (a, (bn : Int)) = L := ⟨_, rfl⟩
      rw [hL] at hMy hNt hNt2 hMy2 z3 z4 z5 zt zt0 hLk hok1
      have hn1 := hok1.len
      have hLl := hLk.len
      generalize noteS s.noted L = N1 at *
      obtain ⟨tt, htt⟩ : ∃ t, totS L = t := ⟨_, rfl⟩
      rw [htt] at zt zt0
      obtain ⟨k0, k1⟩ := kk.keep hB
      cases L with
      | nil =>
        have hTot := Lib.hid (fun (w5 : World) (v5 : Value) (h : OwnSp w5 0 v5 []) => total_any v5 [] w5 hLk.sbs (by simp at hLl ⊢ <;> omega) h.pl)
        have hRt := Lib.hid (fun (w5 : World) (v5 : Value) (h : OwnSp w5 0 v5 []) => right_any v5 [] w5 hLk.sbs (by simp at hLl ⊢ <;> omega) h.pl)
        have hRt2 := Lib.hid (fun (w5 : World) (v5 : Value) (h : OwnSp w5 0 v5 N1) => right_any v5 N1 w5 hok1.sbs (by omega) h.pl)
        rw [htt] at hTot
        rw [z3] at hRt
        rw [z4] at hRt2
        have htq : decide (tt ≤ (bn : Int)) = true := decide_eq_true zt
        have hok1h := Lib.hid hok1
        clear hr hr1 hbn hT hok1
        go_wp2_with (first
          | (go_at_call 34; refine hMy.mono ?_; rintro e w4 ⟨rfl, T4, hb4, _⟩
             have h4 := hNt.out w4 T4
             obtain ⟨k0, k1⟩ := kk.keep (hb2w.trans (T4.bel.mono hsz2))
             clear hMy T4)
          | (go_at_call 35; refine h4.mono ?_; rintro e w5 ⟨vA, F5, rfl, oA, T5, _, _, _⟩
             have h5 := hNt2.out w5 F5 T5
             obtain ⟨k0, k1⟩ := kk.keep (hb2w.trans (T5.bel.mono hsz2))
             clear h4 T5)
          | (go_at_call 35; refine h5.mono ?_; rintro e w6 ⟨vB, F6, rfl, oB, T6, S6, _, _⟩
             replace T6 : TxN w2 w6 B F6 { s with noted := N1 } := T6
             obtain ⟨A6, cap6, rfl, _⟩ := ((ownSp_iff.1 oB.own).el spE_len).form (n := 0) rfl
             replace oA := oA.go S6
             have h6 := hTot.out w6 vA oA.own
             clear h5 oB S6)
          | (go_at_call 36; refine h6.mono ?_; rintro e w7 ⟨rfl, hb7⟩
             replace oA := oA.keep hb7
             obtain ⟨A5, cap5, rfl, _⟩ := ((ownSp_iff.1 oA.own).el spE_len).form (n := 0) rfl
             have T7 := T6.keep hb7
             clear h6 T6))
        obtain ⟨W, hWq⟩ : ∃ W, w7.drew = W := ⟨_, rfl⟩
        have TW : TxN w2 W B F6 { s with noted := N1 } := by rw [← hWq]; exact T7.keep (Below.refl _ _).drew
        have oW := oA.keep (show Below w7.heap.size w7 W from by rw [← hWq]; exact (Below.refl _ _).drew)
        have hbW : Below w0.heap.size w0 W := hb2w.trans (TW.bel.mono hsz2)
        have hMv := hMy2.out W F6 TW
        have hCells := Lib.hid (fun (w' : World) (h : Below W.heap.size W w') => show C2 w' w.heap.size (.int .i64 a) (.int .i64 bn) from kk.keep (hbW.trans (h.mono hbW.size)))
        have hbK := Below.refl W.heap.size W
        clear T7 oA
        refine wp_region_held_drew (S := (fun w' => Below W.heap.size W w')) (by kernel_rfl) ?_ (fun hHeld => ?_)
        · (try dsimp only)
          (first | exact hbK | (rw [hWq]; exact hbK))
        rw [hWq]
        clear hWq
        refine takeL 0 (v := ?_) rfl (by kernel_rfl) (by kernel_rfl) (by kernel_rfl) (fun _ _ _ h => h) (by rfl) (by assumption) ?_ ?_
        rotate_left
        · (intro w hSw; (try dsimp only at hSw); obtain ⟨k0, k1⟩ := hCells.out w hSw; go_simp <;> with_reducible rfl)
        try simp only [Act.put, List.setIfInBounds_toArray, List.set_cons_zero, List.set_cons_succ]
        refine takeL 1 (v := ?_) rfl (by kernel_rfl) (by kernel_rfl) (by kernel_rfl) (fun _ _ _ h => h) (by rfl) (by assumption) ?_ ?_
        rotate_left
        · (intro w hSw; (try dsimp only at hSw); obtain ⟨k0, k1⟩ := hCells.out w hSw; go_simp <;> with_reducible rfl)
        try simp only [Act.put, List.setIfInBounds_toArray, List.set_cons_zero, List.set_cons_succ]
        refine takeL 2 (v := ?_) rfl (by kernel_rfl) (by kernel_rfl) (by kernel_rfl) (fun _ _ _ h => h) (by rfl) (by assumption) ?_ ?_
        rotate_left
        · (intro w hSw; (try dsimp only at hSw); obtain ⟨k0, k1⟩ := hCells.out w hSw; go_simp <;> with_reducible rfl)
        try simp only [Act.put, List.setIfInBounds_toArray, List.set_cons_zero, List.set_cons_succ]
        refine takeL 3 (v := ?_) rfl (by kernel_rfl) (by kernel_rfl) (by kernel_rfl) (fun _ _ _ h => h) (by rfl) (by assumption) ?_ ?_
        rotate_left
        · (intro w hSw; (try dsimp only at hSw); obtain ⟨k0, k1⟩ := hCells.out w hSw; go_simp <;> with_reducible rfl)
        try simp only [Act.put, List.setIfInBounds_toArray, List.set_cons_zero, List.set_cons_succ]
        refine takeL 4 (v := ?_) rfl (by kernel_rfl) (by kernel_rfl) (by kernel_rfl) (fun _ _ _ h => h) (by rfl) (by assumption) ?_ ?_
        rotate_left
        · (intro w hSw; (try dsimp only at hSw); obtain ⟨k0, k1⟩ := hCells.out w hSw; go_simp <;> with_reducible rfl)
        try simp only [Act.put, List.setIfInBounds_toArray, List.set_cons_zero, List.set_cons_succ]
        refine takeL 5 (v := ?_) rfl (by kernel_rfl) (by kernel_rfl) (by kernel_rfl) (fun _ _ _ h => h) (by rfl) (by assumption) ?_ ?_
        rotate_left
        · (intro w hSw; (try dsimp only at hSw); obtain ⟨k0, k1⟩ := hCells.out w hSw; go_simp <;> with_reducible rfl)
        try simp only [Act.put, List.setIfInBounds_toArray, List.set_cons_zero, List.set_cons_succ]
        refine takeL 6 (v := ?_) rfl (by kernel_rfl) (by kernel_rfl) (by kernel_rfl) (fun _ _ _ h => h) (by rfl) (by assumption) ?_ ?_
        rotate_left
        · (intro w hSw; (try dsimp only at hSw); obtain ⟨k0, k1⟩ := hCells.out w hSw; go_simp <;> with_reducible rfl)
        try simp only [Act.put, List.setIfInBounds_toArray, List.set_cons_zero, List.set_cons_succ]
        refine takeL 7 (v := ?_) rfl (by kernel_rfl) (by kernel_rfl) (by kernel_rfl) (fun _ _ _ h => h) (by rfl) (by assumption) ?_ ?_
        rotate_left
        · (intro w hSw; (try dsimp only at hSw); obtain ⟨k0, k1⟩ := hCells.out w hSw; go_simp <;> with_reducible rfl)
        try simp only [Act.put, List.setIfInBounds_toArray, List.set_cons_zero, List.set_cons_succ]
        refine takeL 8 (v := ?_) rfl (by kernel_rfl) (by kernel_rfl) (by kernel_rfl) (fun _ _ _ h => h) (by rfl) (by assumption) ?_ ?_
        rotate_left
        · (intro w hSw; (try dsimp only at hSw); obtain ⟨k0, k1⟩ := hCells.out w hSw; go_simp <;> with_reducible rfl)
        try simp only [Act.put, List.setIfInBounds_toArray, List.set_cons_zero, List.set_cons_succ]
        refine takeL 9 (v := ?_) rfl (by kernel_rfl) (by kernel_rfl) (by kernel_rfl) (fun _ _ _ h => h) (by rfl) (by assumption) ?_ ?_
        rotate_left
        · (intro w hSw; (try dsimp only at hSw); obtain ⟨k0, k1⟩ := hCells.out w hSw; go_simp <;> with_reducible rfl)
        try simp only [Act.put, List.setIfInBounds_toArray, List.set_cons_zero, List.set_cons_succ]
        refine takeL 10 (v := ?_) rfl (by kernel_rfl) (by kernel_rfl) (by kernel_rfl) (fun _ _ _ h => h) (by rfl) (by assumption) ?_ ?_
        rotate_left
        · (intro w hSw; (try dsimp only at hSw); obtain ⟨k0, k1⟩ := hCells.out w hSw; go_simp <;> with_reducible rfl)
        try simp only [Act.put, List.setIfInBounds_toArray, List.set_cons_zero, List.set_cons_succ]
        refine takeL 11 (v := ?_) rfl (by kernel_rfl) (by kernel_rfl) (by kernel_rfl) (fun _ _ _ h => h) (by rfl) (by assumption) ?_ ?_
        rotate_left
        · (intro w hSw; (try dsimp only at hSw); obtain ⟨k0, k1⟩ := hCells.out w hSw; go_simp <;> with_reducible rfl)
        try simp only [Act.put, List.setIfInBounds_toArray, List.set_cons_zero, List.set_cons_succ]
        refine takeL 12 (v := ?_) rfl (by kernel_rfl) (by kernel_rfl) (by kernel_rfl) (fun _ _ _ h => h) (by rfl) (by assumption) ?_ ?_
        rotate_left
        · (intro w hSw; (try dsimp only at hSw); obtain ⟨k0, k1⟩ := hCells.out w hSw; go_simp <;> with_reducible rfl)
        try simp only [Act.put, List.setIfInBounds_toArray, List.set_cons_zero, List.set_cons_succ]
        refine takeL 13 (v := ?_) rfl (by kernel_rfl) (by kernel_rfl) (by kernel_rfl) (fun _ _ _ h => h) (by rfl) (by assumption) ?_ ?_
        rotate_left
        · (intro w hSw; (try dsimp only at hSw); obtain ⟨k0, k1⟩ := hCells.out w hSw; go_simp <;> with_reducible rfl)
        try simp only [Act.put, List.setIfInBounds_toArray, List.set_cons_zero, List.set_cons_succ]
        refine takeL 14 (v := ?_) rfl (by kernel_rfl) (by kernel_rfl) (by kernel_rfl) (fun _ _ _ h => h) (by rfl) (by assumption) ?_ ?_
        rotate_left
        · (intro w hSw; (try dsimp only at hSw); obtain ⟨k0, k1⟩ := hCells.out w hSw; go_simp <;> with_reducible rfl)
        try simp only [Act.put, List.setIfInBounds_toArray, List.set_cons_zero, List.set_cons_succ]
        refine takeL 15 (v := ?_) rfl (by kernel_rfl) (by kernel_rfl) (by kernel_rfl) (fun _ _ _ h => h) (by rfl) (by assumption) ?_ ?_
        rotate_left
        · (intro w hSw; (try dsimp only at hSw); obtain ⟨k0, k1⟩ := hCells.out w hSw; go_simp <;> with_reducible rfl)
        try simp only [Act.put, List.setIfInBounds_toArray, List.set_cons_zero, List.set_cons_succ]
        refine oneL 16 rfl (by kernel_rfl) (fun K hK => ?_)
        go_simp
        ((with_reducible refine hMv.mono ?_); rintro e w8 ⟨rfl, T8, hb8, _⟩; replace hbK := hb8; have hR8 := hRt.out w8 _ (oW.keep hbK).own; clear hMv)
        refine hK.out _ _ ?_ (fun hHeld2 => ?_)
        · (try dsimp only)
          (first | exact hbK | (rw [hWq]; exact hbK))
        clear hK K hHeld
        have hHeld := hHeld2
        clear hHeld2
        try simp only [Act.put, List.setIfInBounds_toArray, List.set_cons_zero, List.set_cons_succ]
        refine takeL 17 (v := ?_) rfl (by kernel_rfl) (by kernel_rfl) (by kernel_rfl) (fun _ _ _ h => h) (by rfl) (by assumption) ?_ ?_
        rotate_left
        · (intro w hSw; (try dsimp only at hSw); obtain ⟨k0, k1⟩ := hCells.out w hSw; go_simp <;> with_reducible rfl)
        try simp only [Act.put, List.setIfInBounds_toArray, List.set_cons_zero, List.set_cons_succ]
        refine takeL 18 (v := ?_) rfl (by kernel_rfl) (by kernel_rfl) (by kernel_rfl) (fun _ _ _ h => h) (by rfl) (by assumption) ?_ ?_
        rotate_left
        · (intro w hSw; (try dsimp only at hSw); obtain ⟨k0, k1⟩ := hCells.out w hSw; go_simp <;> with_reducible rfl)
        try simp only [Act.put, List.setIfInBounds_toArray, List.set_cons_zero, List.set_cons_succ]
        refine takeL 19 (v := ?_) rfl (by kernel_rfl) (by kernel_rfl) (by kernel_rfl) (fun _ _ _ h => h) (by rfl) (by assumption) ?_ ?_
        rotate_left
        · (intro w hSw; (try dsimp only at hSw); obtain ⟨k0, k1⟩ := hCells.out w hSw; go_simp <;> with_reducible rfl)
        try simp only [Act.put, List.setIfInBounds_toArray, List.set_cons_zero, List.set_cons_succ]
        refine oneL 20 rfl (by kernel_rfl) (fun K hK => ?_)
        go_simp
        ((with_reducible refine hR8.mono ?_); rintro e w9 ⟨rfl, hb9⟩; replace hbK := hbK.trans (hb9.mono hbK.size); have T9 := T8.keep hb9; have hN9 := noted_N T9 (by show N1.length ≤ 1000000; omega); clear hR8 T8)
        refine hK.out _ _ ?_ (fun hHeld2 => ?_)
        · (try dsimp only)
          (first | exact hbK | (rw [hWq]; exact hbK))
        clear hK K hHeld
        have hHeld := hHeld2
        clear hHeld2
        try simp only [Act.put, List.setIfInBounds_toArray, List.set_cons_zero, List.set_cons_succ]
        refine takeL 21 (v := ?_) rfl (by kernel_rfl) (by kernel_rfl) (by kernel_rfl) (fun _ _ _ h => h) (by rfl) (by assumption) ?_ ?_
        rotate_left
        · (intro w hSw; (try dsimp only at hSw); obtain ⟨k0, k1⟩ := hCells.out w hSw; go_simp <;> with_reducible rfl)
        try simp only [Act.put, List.setIfInBounds_toArray, List.set_cons_zero, List.set_cons_succ]
        refine takeL 22 (v := ?_) rfl (by kernel_rfl) (by kernel_rfl) (by kernel_rfl) (fun _ _ _ h => h) (by rfl) (by assumption) ?_ ?_
        rotate_left
        · (intro w hSw; (try dsimp only at hSw); obtain ⟨k0, k1⟩ := hCells.out w hSw; go_simp <;> with_reducible rfl)
        try simp only [Act.put, List.setIfInBounds_toArray, List.set_cons_zero, List.set_cons_succ]
        refine takeL 23 (v := ?_) rfl (by kernel_rfl) (by kernel_rfl) (by kernel_rfl) (fun _ _ _ h => h) (by rfl) (by assumption) ?_ ?_
        rotate_left
        · (intro w hSw; (try dsimp only at hSw); obtain ⟨k0, k1⟩ := hCells.out w hSw; go_simp <;> with_reducible rfl)
        try simp only [Act.put, List.setIfInBounds_toArray, List.set_cons_zero, List.set_cons_succ]
        refine oneL 24 rfl (by kernel_rfl) (fun K hK => ?_)
        go_simp
        ((with_reducible refine hN9.mono ?_); rintro e w10 ⟨v10, rfl, o10, _, T10, hb10⟩; replace hbK := hbK.trans (hb10.mono hbK.size); have hR10 := hRt2.out w10 v10 o10.own; clear hN9 T9 o10)
        refine hK.out _ _ ?_ (fun hHeld2 => ?_)
        · (try dsimp only)
          (first | exact hbK | (rw [hWq]; exact hbK))
        clear hK K hHeld
        have hHeld := hHeld2
        clear hHeld2
        try simp only [Act.put, List.setIfInBounds_toArray, List.set_cons_zero, List.set_cons_succ]
        refine oneL 25 rfl (by kernel_rfl) (fun K hK => ?_)
        go_simp
        ((with_reducible refine hR10.mono ?_); rintro e w11 ⟨rfl, hb11⟩; replace hbK := hbK.trans (hb11.mono hbK.size); have T11 := T10.keep hb11; clear hR10 T10)
        refine hK.out _ _ ?_ (fun hHeld2 => ?_)
        · (try dsimp only)
          (first | exact hbK | (rw [hWq]; exact hbK))
        clear hK K hHeld
        have hHeld := hHeld2
        clear hHeld2
        try simp only [Act.put, List.setIfInBounds_toArray, List.set_cons_zero, List.set_cons_succ]
        refine takeL 26 (v := ?_) rfl (by kernel_rfl) (by kernel_rfl) (by kernel_rfl) (fun _ _ _ h => h) (by rfl) (by assumption) ?_ ?_
        rotate_left
        · (intro w hSw; (try dsimp only at hSw); obtain ⟨k0, k1⟩ := hCells.out w hSw; go_simp <;> with_reducible rfl)
        try simp only [Act.put, List.setIfInBounds_toArray, List.set_cons_zero, List.set_cons_succ]
        refine takeL 27 (v := ?_) rfl (by kernel_rfl) (by kernel_rfl) (by kernel_rfl) (fun _ _ _ h => h) (by rfl) (by assumption) ?_ ?_
        rotate_left
        · (intro w hSw; (try dsimp only at hSw); obtain ⟨k0, k1⟩ := hCells.out w hSw; go_simp <;> with_reducible rfl)
        try simp only [Act.put, List.setIfInBounds_toArray, List.set_cons_zero, List.set_cons_succ]
        refine takeL 28 (v := ?_) rfl (by kernel_rfl) (by kernel_rfl) (by kernel_rfl) (fun _ _ _ h => h) (by rfl) (by assumption) ?_ ?_
        rotate_left
        · (intro w hSw; (try dsimp only at hSw); obtain ⟨k0, k1⟩ := hCells.out w hSw; go_simp <;> with_reducible rfl)
        try simp only [Act.put, List.setIfInBounds_toArray, List.set_cons_zero, List.set_cons_succ]
        refine takeL 29 (v := ?_) rfl (by kernel_rfl) (by kernel_rfl) (by kernel_rfl) (fun _ _ _ h => h) (by rfl) (by assumption) ?_ ?_
        rotate_left
        · (intro w hSw; (try dsimp only at hSw); obtain ⟨k0, k1⟩ := hCells.out w hSw; go_simp <;> with_reducible rfl)
        try simp only [Act.put, List.setIfInBounds_toArray, List.set_cons_zero, List.set_cons_succ]
        refine takeL 30 (v := ?_) rfl (by kernel_rfl) (by kernel_rfl) (by kernel_rfl) (fun _ _ _ h => h) (by rfl) (by assumption) ?_ ?_
        rotate_left
        · (intro w hSw; (try dsimp only at hSw); obtain ⟨k0, k1⟩ := hCells.out w hSw; go_simp <;> with_reducible rfl)
        try simp only [Act.put, List.setIfInBounds_toArray, List.set_cons_zero, List.set_cons_succ]
        refine takeL 31 (v := ?_) rfl (by kernel_rfl) (by kernel_rfl) (by kernel_rfl) (fun _ _ _ h => h) (by rfl) (by assumption) ?_ ?_
        rotate_left
        · (intro w hSw; (try dsimp only at hSw); obtain ⟨k0, k1⟩ := hCells.out w hSw; go_simp <;> with_reducible rfl)
        try simp only [Act.put, List.setIfInBounds_toArray, List.set_cons_zero, List.set_cons_succ]
        refine takeL 32 (v := ?_) rfl (by kernel_rfl) (by kernel_rfl) (by kernel_rfl) (fun _ _ _ h => h) (by rfl) (by assumption) ?_ ?_
        rotate_left
        · (intro w hSw; (try dsimp only at hSw); obtain ⟨k0, k1⟩ := hCells.out w hSw; go_simp <;> with_reducible rfl)
        try simp only [Act.put, List.setIfInBounds_toArray, List.set_cons_zero, List.set_cons_succ]
        refine takeL 33 (v := ?_) rfl (by kernel_rfl) (by kernel_rfl) (by kernel_rfl) (fun _ _ _ h => h) (by rfl) (by assumption) ?_ ?_
        rotate_left
        · (intro w hSw; (try dsimp only at hSw); obtain ⟨k0, k1⟩ := hCells.out w hSw; go_simp <;> with_reducible rfl)
        try simp only [Act.put, List.setIfInBounds_toArray, List.set_cons_zero, List.set_cons_succ]
        refine takeL 34 (v := ?_) rfl (by kernel_rfl) (by kernel_rfl) (by kernel_rfl) (fun _ _ _ h => h) (by rfl) (by assumption) ?_ ?_
        rotate_left
        · (intro w hSw; (try dsimp only at hSw); obtain ⟨k0, k1⟩ := hCells.out w hSw; go_simp <;> with_reducible rfl)
        try simp only [Act.put, List.setIfInBounds_toArray, List.set_cons_zero, List.set_cons_succ]
        refine takeL 35 (v := ?_) rfl (by kernel_rfl) (by kernel_rfl) (by kernel_rfl) (fun _ _ _ h => h) (by rfl) (by assumption) ?_ ?_
        rotate_left
        · (intro w hSw; (try dsimp only at hSw); obtain ⟨k0, k1⟩ := hCells.out w hSw; go_simp <;> with_reducible rfl)
        try simp only [Act.put, List.setIfInBounds_toArray, List.set_cons_zero, List.set_cons_succ]
        refine takeL 36 (v := ?_) rfl (by kernel_rfl) (by kernel_rfl) (by kernel_rfl) (fun _ _ _ h => h) (by rfl) (by assumption) ?_ ?_
        rotate_left
        · (intro w hSw; (try dsimp only at hSw); obtain ⟨k0, k1⟩ := hCells.out w hSw; go_simp <;> with_reducible rfl)
        try simp only [Act.put, List.setIfInBounds_toArray, List.set_cons_zero, List.set_cons_succ]
        refine takeL 37 (v := ?_) rfl (by kernel_rfl) (by kernel_rfl) (by kernel_rfl) (fun _ _ _ h => h) (by rfl) (by assumption) ?_ ?_
        rotate_left
        · (intro w hSw; (try dsimp only at hSw); obtain ⟨k0, k1⟩ := hCells.out w hSw; go_simp <;> with_reducible rfl)
        try simp only [Act.put, List.setIfInBounds_toArray, List.set_cons_zero, List.set_cons_succ]
        refine idleL 38 rfl (by kernel_rfl) (by kernel_rfl) (by kernel_rfl) (fun _ _ _ h => h) (by rfl) (by assumption) ?_
        try simp only [Act.put, List.setIfInBounds_toArray, List.set_cons_zero, List.set_cons_succ]
        refine idleL 39 rfl (by kernel_rfl) (by kernel_rfl) (by kernel_rfl) (fun _ _ _ h => h) (by rfl) (by assumption) ?_
        try simp only [Act.put, List.setIfInBounds_toArray, List.set_cons_zero, List.set_cons_succ]
        refine idleL 40 rfl (by kernel_rfl) (by kernel_rfl) (by kernel_rfl) (fun _ _ _ h => h) (by rfl) (by assumption) ?_
        try simp only [Act.put, List.setIfInBounds_toArray, List.set_cons_zero, List.set_cons_succ]
        refine idleL 41 rfl (by kernel_rfl) (by kernel_rfl) (by kernel_rfl) (fun _ _ _ h => h) (by rfl) (by assumption) ?_
        try simp only [Act.put, List.setIfInBounds_toArray, List.set_cons_zero, List.set_cons_succ]
        refine idleL 42 rfl (by kernel_rfl) (by kernel_rfl) (by kernel_rfl) (fun _ _ _ h => h) (by rfl) (by assumption) ?_
        try simp only [Act.put, List.setIfInBounds_toArray, List.set_cons_zero, List.set_cons_succ]
        refine idleL 43 rfl (by kernel_rfl) (by kernel_rfl) (by kernel_rfl) (fun _ _ _ h => h) (by rfl) (by assumption) ?_
        try simp only [Act.put, List.setIfInBounds_toArray, List.set_cons_zero, List.set_cons_succ]
        refine takeL 44 (v := ?_) rfl (by kernel_rfl) (by kernel_rfl) (by kernel_rfl) (fun _ _ _ h => h) (by rfl) (by assumption) ?_ ?_
        rotate_left
        · (intro w hSw; (try dsimp only at hSw); obtain ⟨k0, k1⟩ := hCells.out w hSw; go_simp <;> with_reducible rfl)
        try simp only [Act.put, List.setIfInBounds_toArray, List.set_cons_zero, List.set_cons_succ]
        refine takeL 45 (v := ?_) rfl (by kernel_rfl) (by kernel_rfl) (by kernel_rfl) (fun _ _ _ h => h) (by rfl) (by assumption) ?_ ?_
        rotate_left
        · (intro w hSw; (try dsimp only at hSw); obtain ⟨k0, k1⟩ := hCells.out w hSw; go_simp <;> with_reducible rfl)
        try simp only [Act.put, List.setIfInBounds_toArray, List.set_cons_zero, List.set_cons_succ]
        refine takeL 46 (v := ?_) rfl (by kernel_rfl) (by kernel_rfl) (by kernel_rfl) (fun _ _ _ h => h) (by rfl) (by assumption) ?_ ?_
        rotate_left
        · (intro w hSw; (try dsimp only at hSw); obtain ⟨k0, k1⟩ := hCells.out w hSw; go_simp <;> with_reducible rfl)
        try simp only [Act.put, List.setIfInBounds_toArray, List.set_cons_zero, List.set_cons_succ]
        refine wpAnyH_done (by kernel_rfl) ?_ _
        go_wp2_with fail
        go_ret
        exact ⟨rfl, hb0h.out.trans ((hbW.trans (hbK.mono hbW.size)).mono (by omega))⟩
      | cons y L =>
        obtain ⟨m5, hm5⟩ : ∃ m, (y :: L).length = m := ⟨_, rfl⟩
        have hm51 : 1 ≤ m5 := by rw [← hm5]; simp
        have hm50 : ((m5 : Int) == 0) = false := by rw [beq_eq_false_iff_ne]; omega
        have hm5l : (0 : Int) < (m5 : Int) := by omega
        have hm5n : 0 < m5 := by omega
        have hSBy := hLk.sb (x := y) (by simp)
        have hcy := z5 y (by simp)
        have hTot := Lib.hid (fun (w5 : World) (v5 : Value) (h : OwnSp w5 0 v5 (y :: L)) => total_any v5 (y :: L) w5 hLk.sbs (by simp at hLl ⊢ <;> omega) h.pl)
        have hRt := Lib.hid (fun (w5 : World) (v5 : Value) (h : OwnSp w5 0 v5 (y :: L)) => right_any v5 (y :: L) w5 hLk.sbs (by simp at hLl ⊢ <;> omega) h.pl)
        have hRt2 := Lib.hid (fun (w5 : World) (v5 : Value) (h : OwnSp w5 0 v5 N1) => right_any v5 N1 w5 hok1.sbs (by omega) h.pl)
        rw [htt] at hTot
        rw [z3] at hRt
        rw [z4] at hRt2
        have htq : decide (tt ≤ (bn : Int)) = true := decide_eq_true zt
        have hok1h := Lib.hid hok1
        clear hr hr1 hbn hT hok1
        go_wp2_with (first
          | (go_at_call 34; refine hMy.mono ?_; rintro e w4 ⟨rfl, T4, hb4, _⟩
             have h4 := hNt.out w4 T4
             obtain ⟨k0, k1⟩ := kk.keep (hb2w.trans (T4.bel.mono hsz2))
             clear hMy T4)
          | (go_at_call 35; refine h4.mono ?_; rintro e w5 ⟨vA, F5, rfl, oA, T5, _, _, _⟩
             have h5 := hNt2.out w5 F5 T5
             obtain ⟨k0, k1⟩ := kk.keep (hb2w.trans (T5.bel.mono hsz2))
             clear h4 T5)
          | (go_at_call 35; refine h5.mono ?_; rintro e w6 ⟨vB, F6, rfl, oB, T6, S6, _, _⟩
             replace T6 : TxN w2 w6 B F6 { s with noted := N1 } := T6
             obtain ⟨A6, cap6, rfl, _⟩ := ((ownSp_iff.1 oB.own).el spE_len).form (n := 0) rfl
             replace oA := oA.go S6
             have h6 := hTot.out w6 vA oA.own
             clear h5 oB S6)
          | (go_at_call 36; refine h6.mono ?_; rintro e w7 ⟨rfl, hb7⟩
             replace oA := oA.keep hb7
             obtain ⟨A5, cap5, rfl, hC5⟩ := ((ownSp_iff.1 oA.own).el spE_len).form hm5
             obtain ⟨g5, off5, rfl, _, _, hg5, _⟩ := hC5 w7 0 (Below.refl _ _) (by omega)
             clear hC5
             have T7 := T6.keep hb7
             clear h6 T6))
        obtain ⟨W, hWq⟩ : ∃ W, w7.drew = W := ⟨_, rfl⟩
        have TW : TxN w2 W B F6 { s with noted := N1 } := by rw [← hWq]; exact T7.keep (Below.refl _ _).drew
        have oW := oA.keep (show Below w7.heap.size w7 W from by rw [← hWq]; exact (Below.refl _ _).drew)
        have hbW : Below w0.heap.size w0 W := hb2w.trans (TW.bel.mono hsz2)
        have hMv := hMy2.out W F6 TW
        have hCells := Lib.hid (fun (w' : World) (h : Below W.heap.size W w') => show (w'.cell? ⟨w.heap.size, 0, none⟩ = some (.int .i64 a) ∧ w'.cell? ⟨w.heap.size, 1, none⟩ = some (.int .i64 bn)) ∧ w'.cell? ⟨g5, off5, none⟩ = some (.int .i64 y.1) ∧ w'.cell? ⟨g5, off5 + 1, none⟩ = some (.int .i64 y.2) from by
          refine ⟨kk.keep (hbW.trans (h.mono hbW.size)), ?_⟩
          obtain ⟨A7, cap7, he7, hC7⟩ := ((ownSp_iff.1 (oW.keep h).own).el spE_len).form hm5
          obtain ⟨g7, off7, hA7, _, _, _, hcl7⟩ := hC7 w' 0 (Below.refl _ _) (by omega)
          cases he7
          cases hA7
          have e0 := hcl7 0 (by omega)
          have e1 := hcl7 1 (by omega)
          rw [Nat.zero_mul, Nat.add_zero] at e0 e1
          exact ⟨e0, e1⟩)
        have hbK := Below.refl W.heap.size W
        clear T7 oA
        refine wp_region_held_drew (S := (fun w' => Below W.heap.size W w')) (by kernel_rfl) ?_ (fun hHeld => ?_)
        · (try dsimp only)
          (first | exact hbK | (rw [hWq]; exact hbK))
        rw [hWq]
        clear hWq
        refine takeL 0 (v := ?_) rfl (by kernel_rfl) (by kernel_rfl) (by kernel_rfl) (fun _ _ _ h => h) (by rfl) (by assumption) ?_ ?_
        rotate_left
        · (intro w hSw; (try dsimp only at hSw); obtain ⟨⟨k0, k1⟩, y0, y1⟩ := hCells.out w hSw; go_simp <;> with_reducible rfl)
        try simp only [Act.put, List.setIfInBounds_toArray, List.set_cons_zero, List.set_cons_succ]
        refine takeL 1 (v := ?_) rfl (by kernel_rfl) (by kernel_rfl) (by kernel_rfl) (fun _ _ _ h => h) (by rfl) (by assumption) ?_ ?_
        rotate_left
        · (intro w hSw; (try dsimp only at hSw); obtain ⟨⟨k0, k1⟩, y0, y1⟩ := hCells.out w hSw; go_simp <;> with_reducible rfl)
        try simp only [Act.put, List.setIfInBounds_toArray, List.set_cons_zero, List.set_cons_succ]
        refine takeL 2 (v := ?_) rfl (by kernel_rfl) (by kernel_rfl) (by kernel_rfl) (fun _ _ _ h => h) (by rfl) (by assumption) ?_ ?_
        rotate_left
        · (intro w hSw; (try dsimp only at hSw); obtain ⟨⟨k0, k1⟩, y0, y1⟩ := hCells.out w hSw; go_simp <;> with_reducible rfl)
        try simp only [Act.put, List.setIfInBounds_toArray, List.set_cons_zero, List.set_cons_succ]
        refine takeL 3 (v := ?_) rfl (by kernel_rfl) (by kernel_rfl) (by kernel_rfl) (fun _ _ _ h => h) (by rfl) (by assumption) ?_ ?_
        rotate_left
        · (intro w hSw; (try dsimp only at hSw); obtain ⟨⟨k0, k1⟩, y0, y1⟩ := hCells.out w hSw; go_simp <;> with_reducible rfl)
        try simp only [Act.put, List.setIfInBounds_toArray, List.set_cons_zero, List.set_cons_succ]
        refine takeL 4 (v := ?_) rfl (by kernel_rfl) (by kernel_rfl) (by kernel_rfl) (fun _ _ _ h => h) (by rfl) (by assumption) ?_ ?_
        rotate_left
        · (intro w hSw; (try dsimp only at hSw); obtain ⟨⟨k0, k1⟩, y0, y1⟩ := hCells.out w hSw; go_simp <;> with_reducible rfl)
        try simp only [Act.put, List.setIfInBounds_toArray, List.set_cons_zero, List.set_cons_succ]
        refine takeL 5 (v := ?_) rfl (by kernel_rfl) (by kernel_rfl) (by kernel_rfl) (fun _ _ _ h => h) (by rfl) (by assumption) ?_ ?_
        rotate_left
        · (intro w hSw; (try dsimp only at hSw); obtain ⟨⟨k0, k1⟩, y0, y1⟩ := hCells.out w hSw; go_simp <;> with_reducible rfl)
        try simp only [Act.put, List.setIfInBounds_toArray, List.set_cons_zero, List.set_cons_succ]
        refine takeL 6 (v := ?_) rfl (by kernel_rfl) (by kernel_rfl) (by kernel_rfl) (fun _ _ _ h => h) (by rfl) (by assumption) ?_ ?_
        rotate_left
        · (intro w hSw; (try dsimp only at hSw); obtain ⟨⟨k0, k1⟩, y0, y1⟩ := hCells.out w hSw; go_simp <;> with_reducible rfl)
        try simp only [Act.put, List.setIfInBounds_toArray, List.set_cons_zero, List.set_cons_succ]
        refine takeL 7 (v := ?_) rfl (by kernel_rfl) (by kernel_rfl) (by kernel_rfl) (fun _ _ _ h => h) (by rfl) (by assumption) ?_ ?_
        rotate_left
        · (intro w hSw; (try dsimp only at hSw); obtain ⟨⟨k0, k1⟩, y0, y1⟩ := hCells.out w hSw; go_simp <;> with_reducible rfl)
        try simp only [Act.put, List.setIfInBounds_toArray, List.set_cons_zero, List.set_cons_succ]
        refine takeL 8 (v := ?_) rfl (by kernel_rfl) (by kernel_rfl) (by kernel_rfl) (fun _ _ _ h => h) (by rfl) (by assumption) ?_ ?_
        rotate_left
        · (intro w hSw; (try dsimp only at hSw); obtain ⟨⟨k0, k1⟩, y0, y1⟩ := hCells.out w hSw; go_simp <;> with_reducible rfl)
        try simp only [Act.put, List.setIfInBounds_toArray, List.set_cons_zero, List.set_cons_succ]
        refine takeL 9 (v := ?_) rfl (by kernel_rfl) (by kernel_rfl) (by kernel_rfl) (fun _ _ _ h => h) (by rfl) (by assumption) ?_ ?_
        rotate_left
        · (intro w hSw; (try dsimp only at hSw); obtain ⟨⟨k0, k1⟩, y0, y1⟩ := hCells.out w hSw; go_simp <;> with_reducible rfl)
        try simp only [Act.put, List.setIfInBounds_toArray, List.set_cons_zero, List.set_cons_succ]
        refine takeL 10 (v := ?_) rfl (by kernel_rfl) (by kernel_rfl) (by kernel_rfl) (fun _ _ _ h => h) (by rfl) (by assumption) ?_ ?_
        rotate_left
        · (intro w hSw; (try dsimp only at hSw); obtain ⟨⟨k0, k1⟩, y0, y1⟩ := hCells.out w hSw; go_simp <;> with_reducible rfl)
        try simp only [Act.put, List.setIfInBounds_toArray, List.set_cons_zero, List.set_cons_succ]
        refine takeL 11 (v := ?_) rfl (by kernel_rfl) (by kernel_rfl) (by kernel_rfl) (fun _ _ _ h => h) (by rfl) (by assumption) ?_ ?_
        rotate_left
        · (intro w hSw; (try dsimp only at hSw); obtain ⟨⟨k0, k1⟩, y0, y1⟩ := hCells.out w hSw; go_simp <;> with_reducible rfl)
        try simp only [Act.put, List.setIfInBounds_toArray, List.set_cons_zero, List.set_cons_succ]
        refine takeL 12 (v := ?_) rfl (by kernel_rfl) (by kernel_rfl) (by kernel_rfl) (fun _ _ _ h => h) (by rfl) (by assumption) ?_ ?_
        rotate_left
        · (intro w hSw; (try dsimp only at hSw); obtain ⟨⟨k0, k1⟩, y0, y1⟩ := hCells.out w hSw; go_simp <;> with_reducible rfl)
        try simp only [Act.put, List.setIfInBounds_toArray, List.set_cons_zero, List.set_cons_succ]
        refine takeL 13 (v := ?_) rfl (by kernel_rfl) (by kernel_rfl) (by kernel_rfl) (fun _ _ _ h => h) (by rfl) (by assumption) ?_ ?_
        rotate_left
        · (intro w hSw; (try dsimp only at hSw); obtain ⟨⟨k0, k1⟩, y0, y1⟩ := hCells.out w hSw; go_simp <;> with_reducible rfl)
        try simp only [Act.put, List.setIfInBounds_toArray, List.set_cons_zero, List.set_cons_succ]
        refine takeL 14 (v := ?_) rfl (by kernel_rfl) (by kernel_rfl) (by kernel_rfl) (fun _ _ _ h => h) (by rfl) (by assumption) ?_ ?_
        rotate_left
        · (intro w hSw; (try dsimp only at hSw); obtain ⟨⟨k0, k1⟩, y0, y1⟩ := hCells.out w hSw; go_simp <;> with_reducible rfl)
        try simp only [Act.put, List.setIfInBounds_toArray, List.set_cons_zero, List.set_cons_succ]
        refine takeL 15 (v := ?_) rfl (by kernel_rfl) (by kernel_rfl) (by kernel_rfl) (fun _ _ _ h => h) (by rfl) (by assumption) ?_ ?_
        rotate_left
        · (intro w hSw; (try dsimp only at hSw); obtain ⟨⟨k0, k1⟩, y0, y1⟩ := hCells.out w hSw; go_simp <;> with_reducible rfl)
        try simp only [Act.put, List.setIfInBounds_toArray, List.set_cons_zero, List.set_cons_succ]
        refine oneL 16 rfl (by kernel_rfl) (fun K hK => ?_)
        go_simp
        ((with_reducible refine hMv.mono ?_); rintro e w8 ⟨rfl, T8, hb8, _⟩; replace hbK := hb8; have hR8 := hRt.out w8 _ (oW.keep hbK).own; clear hMv)
        refine hK.out _ _ ?_ (fun hHeld2 => ?_)
        · (try dsimp only)
          (first | exact hbK | (rw [hWq]; exact hbK))
        clear hK K hHeld
        have hHeld := hHeld2
        clear hHeld2
        try simp only [Act.put, List.setIfInBounds_toArray, List.set_cons_zero, List.set_cons_succ]
        refine takeL 17 (v := ?_) rfl (by kernel_rfl) (by kernel_rfl) (by kernel_rfl) (fun _ _ _ h => h) (by rfl) (by assumption) ?_ ?_
        rotate_left
        · (intro w hSw; (try dsimp only at hSw); obtain ⟨⟨k0, k1⟩, y0, y1⟩ := hCells.out w hSw; go_simp <;> with_reducible rfl)
        try simp only [Act.put, List.setIfInBounds_toArray, List.set_cons_zero, List.set_cons_succ]
        refine takeL 18 (v := ?_) rfl (by kernel_rfl) (by kernel_rfl) (by kernel_rfl) (fun _ _ _ h => h) (by rfl) (by assumption) ?_ ?_
        rotate_left
        · (intro w hSw; (try dsimp only at hSw); obtain ⟨⟨k0, k1⟩, y0, y1⟩ := hCells.out w hSw; go_simp <;> with_reducible rfl)
        try simp only [Act.put, List.setIfInBounds_toArray, List.set_cons_zero, List.set_cons_succ]
        refine takeL 19 (v := ?_) rfl (by kernel_rfl) (by kernel_rfl) (by kernel_rfl) (fun _ _ _ h => h) (by rfl) (by assumption) ?_ ?_
        rotate_left
        · (intro w hSw; (try dsimp only at hSw); obtain ⟨⟨k0, k1⟩, y0, y1⟩ := hCells.out w hSw; go_simp <;> with_reducible rfl)
        try simp only [Act.put, List.setIfInBounds_toArray, List.set_cons_zero, List.set_cons_succ]
        refine oneL 20 rfl (by kernel_rfl) (fun K hK => ?_)
        go_simp
        ((with_reducible refine hR8.mono ?_); rintro e w9 ⟨rfl, hb9⟩; replace hbK := hbK.trans (hb9.mono hbK.size); have T9 := T8.keep hb9; have hN9 := noted_N T9 (by show N1.length ≤ 1000000; omega); clear hR8 T8)
        refine hK.out _ _ ?_ (fun hHeld2 => ?_)
        · (try dsimp only)
          (first | exact hbK | (rw [hWq]; exact hbK))
        clear hK K hHeld
        have hHeld := hHeld2
        clear hHeld2
        try simp only [Act.put, List.setIfInBounds_toArray, List.set_cons_zero, List.set_cons_succ]
        refine takeL 21 (v := ?_) rfl (by kernel_rfl) (by kernel_rfl) (by kernel_rfl) (fun _ _ _ h => h) (by rfl) (by assumption) ?_ ?_
        rotate_left
        · (intro w hSw; (try dsimp only at hSw); obtain ⟨⟨k0, k1⟩, y0, y1⟩ := hCells.out w hSw; go_simp <;> with_reducible rfl)
        try simp only [Act.put, List.setIfInBounds_toArray, List.set_cons_zero, List.set_cons_succ]
        refine takeL 22 (v := ?_) rfl (by kernel_rfl) (by kernel_rfl) (by kernel_rfl) (fun _ _ _ h => h) (by rfl) (by assumption) ?_ ?_
        rotate_left
        · (intro w hSw; (try dsimp only at hSw); obtain ⟨⟨k0, k1⟩, y0, y1⟩ := hCells.out w hSw; go_simp <;> with_reducible rfl)
        try simp only [Act.put, List.setIfInBounds_toArray, List.set_cons_zero, List.set_cons_succ]
        refine takeL 23 (v := ?_) rfl (by kernel_rfl) (by kernel_rfl) (by kernel_rfl) (fun _ _ _ h => h) (by rfl) (by assumption) ?_ ?_
        rotate_left
        · (intro w hSw; (try dsimp only at hSw); obtain ⟨⟨k0, k1⟩, y0, y1⟩ := hCells.out w hSw; go_simp <;> with_reducible rfl)
        try simp only [Act.put, List.setIfInBounds_toArray, List.set_cons_zero, List.set_cons_succ]
        refine oneL 24 rfl (by kernel_rfl) (fun K hK => ?_)
        go_simp
        ((with_reducible refine hN9.mono ?_); rintro e w10 ⟨v10, rfl, o10, _, T10, hb10⟩; replace hbK := hbK.trans (hb10.mono hbK.size); have hR10 := hRt2.out w10 v10 o10.own; clear hN9 T9 o10)
        refine hK.out _ _ ?_ (fun hHeld2 => ?_)
        · (try dsimp only)
          (first | exact hbK | (rw [hWq]; exact hbK))
        clear hK K hHeld
        have hHeld := hHeld2
        clear hHeld2
        try simp only [Act.put, List.setIfInBounds_toArray, List.set_cons_zero, List.set_cons_succ]
        refine oneL 25 rfl (by kernel_rfl) (fun K hK => ?_)
        go_simp
        ((with_reducible refine hR10.mono ?_); rintro e w11 ⟨rfl, hb11⟩; replace hbK := hbK.trans (hb11.mono hbK.size); have T11 := T10.keep hb11; clear hR10 T10)
        refine hK.out _ _ ?_ (fun hHeld2 => ?_)
        · (try dsimp only)
          (first | exact hbK | (rw [hWq]; exact hbK))
        clear hK K hHeld
        have hHeld := hHeld2
        clear hHeld2
        try simp only [Act.put, List.setIfInBounds_toArray, List.set_cons_zero, List.set_cons_succ]
        refine takeL 26 (v := ?_) rfl (by kernel_rfl) (by kernel_rfl) (by kernel_rfl) (fun _ _ _ h => h) (by rfl) (by assumption) ?_ ?_
        rotate_left
        · (intro w hSw; (try dsimp only at hSw); obtain ⟨⟨k0, k1⟩, y0, y1⟩ := hCells.out w hSw; go_simp <;> with_reducible rfl)
        try simp only [Act.put, List.setIfInBounds_toArray, List.set_cons_zero, List.set_cons_succ]
        refine takeL 27 (v := ?_) rfl (by kernel_rfl) (by kernel_rfl) (by kernel_rfl) (fun _ _ _ h => h) (by rfl) (by assumption) ?_ ?_
        rotate_left
        · (intro w hSw; (try dsimp only at hSw); obtain ⟨⟨k0, k1⟩, y0, y1⟩ := hCells.out w hSw; go_simp <;> with_reducible rfl)
        try simp only [Act.put, List.setIfInBounds_toArray, List.set_cons_zero, List.set_cons_succ]
        refine takeL 28 (v := ?_) rfl (by kernel_rfl) (by kernel_rfl) (by kernel_rfl) (fun _ _ _ h => h) (by rfl) (by assumption) ?_ ?_
        rotate_left
        · (intro w hSw; (try dsimp only at hSw); obtain ⟨⟨k0, k1⟩, y0, y1⟩ := hCells.out w hSw; go_simp <;> with_reducible rfl)
        try simp only [Act.put, List.setIfInBounds_toArray, List.set_cons_zero, List.set_cons_succ]
        refine takeL 29 (v := ?_) rfl (by kernel_rfl) (by kernel_rfl) (by kernel_rfl) (fun _ _ _ h => h) (by rfl) (by assumption) ?_ ?_
        rotate_left
        · (intro w hSw; (try dsimp only at hSw); obtain ⟨⟨k0, k1⟩, y0, y1⟩ := hCells.out w hSw; go_simp <;> with_reducible rfl)
        try simp only [Act.put, List.setIfInBounds_toArray, List.set_cons_zero, List.set_cons_succ]
        refine takeL 30 (v := ?_) rfl (by kernel_rfl) (by kernel_rfl) (by kernel_rfl) (fun _ _ _ h => h) (by rfl) (by assumption) ?_ ?_
        rotate_left
        · (intro w hSw; (try dsimp only at hSw); obtain ⟨⟨k0, k1⟩, y0, y1⟩ := hCells.out w hSw; go_simp <;> with_reducible rfl)
        try simp only [Act.put, List.setIfInBounds_toArray, List.set_cons_zero, List.set_cons_succ]
        refine takeL 31 (v := ?_) rfl (by kernel_rfl) (by kernel_rfl) (by kernel_rfl) (fun _ _ _ h => h) (by rfl) (by assumption) ?_ ?_
        rotate_left
        · (intro w hSw; (try dsimp only at hSw); obtain ⟨⟨k0, k1⟩, y0, y1⟩ := hCells.out w hSw; go_simp <;> with_reducible rfl)
        try simp only [Act.put, List.setIfInBounds_toArray, List.set_cons_zero, List.set_cons_succ]
        refine takeL 32 (v := ?_) rfl (by kernel_rfl) (by kernel_rfl) (by kernel_rfl) (fun _ _ _ h => h) (by rfl) (by assumption) ?_ ?_
        rotate_left
        · (intro w hSw; (try dsimp only at hSw); obtain ⟨⟨k0, k1⟩, y0, y1⟩ := hCells.out w hSw; go_simp <;> with_reducible rfl)
        try simp only [Act.put, List.setIfInBounds_toArray, List.set_cons_zero, List.set_cons_succ]
        refine takeL 33 (v := ?_) rfl (by kernel_rfl) (by kernel_rfl) (by kernel_rfl) (fun _ _ _ h => h) (by rfl) (by assumption) ?_ ?_
        rotate_left
        · (intro w hSw; (try dsimp only at hSw); obtain ⟨⟨k0, k1⟩, y0, y1⟩ := hCells.out w hSw; go_simp <;> with_reducible rfl)
        try simp only [Act.put, List.setIfInBounds_toArray, List.set_cons_zero, List.set_cons_succ]
        refine takeL 34 (v := ?_) rfl (by kernel_rfl) (by kernel_rfl) (by kernel_rfl) (fun _ _ _ h => h) (by rfl) (by assumption) ?_ ?_
        rotate_left
        · (intro w hSw; (try dsimp only at hSw); obtain ⟨⟨k0, k1⟩, y0, y1⟩ := hCells.out w hSw; go_simp <;> with_reducible rfl)
        try simp only [Act.put, List.setIfInBounds_toArray, List.set_cons_zero, List.set_cons_succ]
        refine takeL 35 (v := ?_) rfl (by kernel_rfl) (by kernel_rfl) (by kernel_rfl) (fun _ _ _ h => h) (by rfl) (by assumption) ?_ ?_
        rotate_left
        · (intro w hSw; (try dsimp only at hSw); obtain ⟨⟨k0, k1⟩, y0, y1⟩ := hCells.out w hSw; go_simp <;> with_reducible rfl)
        try simp only [Act.put, List.setIfInBounds_toArray, List.set_cons_zero, List.set_cons_succ]
        refine takeL 36 (v := ?_) rfl (by kernel_rfl) (by kernel_rfl) (by kernel_rfl) (fun _ _ _ h => h) (by rfl) (by assumption) ?_ ?_
        rotate_left
        · (intro w hSw; (try dsimp only at hSw); obtain ⟨⟨k0, k1⟩, y0, y1⟩ := hCells.out w hSw; go_simp <;> with_reducible rfl)
        try simp only [Act.put, List.setIfInBounds_toArray, List.set_cons_zero, List.set_cons_succ]
        refine takeL 37 (v := ?_) rfl (by kernel_rfl) (by kernel_rfl) (by kernel_rfl) (fun _ _ _ h => h) (by rfl) (by assumption) ?_ ?_
        rotate_left
        · (intro w hSw; (try dsimp only at hSw); obtain ⟨⟨k0, k1⟩, y0, y1⟩ := hCells.out w hSw; go_simp <;> with_reducible rfl)
        try simp only [Act.put, List.setIfInBounds_toArray, List.set_cons_zero, List.set_cons_succ]
        refine takeL 38 (v := ?_) rfl (by kernel_rfl) (by kernel_rfl) (by kernel_rfl) (fun _ _ _ h => h) (by rfl) (by assumption) ?_ ?_
        rotate_left
        · (intro w hSw; (try dsimp only at hSw); obtain ⟨⟨k0, k1⟩, y0, y1⟩ := hCells.out w hSw; go_simp <;> with_reducible rfl)
        try simp only [Act.put, List.setIfInBounds_toArray, List.set_cons_zero, List.set_cons_succ]
        refine takeL 40 (v := ?_) rfl (by kernel_rfl) (by kernel_rfl) (by kernel_rfl) (fun _ _ _ h => h) (by rfl) (by assumption) ?_ ?_
        rotate_left
        · (intro w hSw; (try dsimp only at hSw); obtain ⟨⟨k0, k1⟩, y0, y1⟩ := hCells.out w hSw; go_simp <;> with_reducible rfl)
        try simp only [Act.put, List.setIfInBounds_toArray, List.set_cons_zero, List.set_cons_succ]
        refine takeL 41 (v := ?_) rfl (by kernel_rfl) (by kernel_rfl) (by kernel_rfl) (fun _ _ _ h => h) (by rfl) (by assumption) ?_ ?_
        rotate_left
        · (intro w hSw; (try dsimp only at hSw); obtain ⟨⟨k0, k1⟩, y0, y1⟩ := hCells.out w hSw; go_simp <;> with_reducible rfl)
        try simp only [Act.put, List.setIfInBounds_toArray, List.set_cons_zero, List.set_cons_succ]
        refine takeL 42 (v := ?_) rfl (by kernel_rfl) (by kernel_rfl) (by kernel_rfl) (fun _ _ _ h => h) (by rfl) (by assumption) ?_ ?_
        rotate_left
        · (intro w hSw; (try dsimp only at hSw); obtain ⟨⟨k0, k1⟩, y0, y1⟩ := hCells.out w hSw; go_simp <;> with_reducible rfl)
        try simp only [Act.put, List.setIfInBounds_toArray, List.set_cons_zero, List.set_cons_succ]
        refine oneL 39 rfl (by kernel_rfl) (fun K hK => ?_)
        go_simp
        ((with_reducible refine (noted_N T11 (by show N1.length ≤ 1000000; omega)).mono ?_); rintro e w12 ⟨v12, rfl, o12, _, T12, hb12⟩; replace hbK := hbK.trans (hb12.mono hbK.size); have hCv := covers_any v12 N1 y w12 hok1h.out.sbs (by omega) hSBy o12.own.pl; rw [hcy] at hCv; clear o12)
        refine hK.out _ _ ?_ (fun hHeld2 => ?_)
        · (try dsimp only)
          (first | exact hbK | (rw [hWq]; exact hbK))
        clear hK K hHeld
        have hHeld := hHeld2
        clear hHeld2
        try simp only [Act.put, List.setIfInBounds_toArray, List.set_cons_zero, List.set_cons_succ]
        refine oneL 43 rfl (by kernel_rfl) (fun K hK => ?_)
        go_simp
        ((with_reducible refine hCv.mono ?_); rintro e w13 ⟨rfl, hb13⟩; replace hbK := hbK.trans (hb13.mono hbK.size); have T13 := T12.keep hb13; clear hCv T12)
        refine hK.out _ _ ?_ (fun hHeld2 => ?_)
        · (try dsimp only)
          (first | exact hbK | (rw [hWq]; exact hbK))
        clear hK K hHeld
        have hHeld := hHeld2
        clear hHeld2
        try simp only [Act.put, List.setIfInBounds_toArray, List.set_cons_zero, List.set_cons_succ]
        refine takeL 44 (v := ?_) rfl (by kernel_rfl) (by kernel_rfl) (by kernel_rfl) (fun _ _ _ h => h) (by rfl) (by assumption) ?_ ?_
        rotate_left
        · (intro w hSw; (try dsimp only at hSw); obtain ⟨⟨k0, k1⟩, y0, y1⟩ := hCells.out w hSw; go_simp <;> with_reducible rfl)
        try simp only [Act.put, List.setIfInBounds_toArray, List.set_cons_zero, List.set_cons_succ]
        refine takeL 45 (v := ?_) rfl (by kernel_rfl) (by kernel_rfl) (by kernel_rfl) (fun _ _ _ h => h) (by rfl) (by assumption) ?_ ?_
        rotate_left
        · (intro w hSw; (try dsimp only at hSw); obtain ⟨⟨k0, k1⟩, y0, y1⟩ := hCells.out w hSw; go_simp <;> with_reducible rfl)
        try simp only [Act.put, List.setIfInBounds_toArray, List.set_cons_zero, List.set_cons_succ]
        refine takeL 46 (v := ?_) rfl (by kernel_rfl) (by kernel_rfl) (by kernel_rfl) (fun _ _ _ h => h) (by rfl) (by assumption) ?_ ?_
        rotate_left
        · (intro w hSw; (try dsimp only at hSw); obtain ⟨⟨k0, k1⟩, y0, y1⟩ := hCells.out w hSw; go_simp <;> with_reducible rfl)
        try simp only [Act.put, List.setIfInBounds_toArray, List.set_cons_zero, List.set_cons_succ]
        refine wpAnyH_done (by kernel_rfl) ?_ _
        go_wp2_with fail
        go_ret
        exact ⟨rfl, hb0h.out.trans ((hbW.trans (hbK.mono hbW.size)).mono (by omega))⟩
end Go.Proofs.Ytcemiclbeocnjaa
