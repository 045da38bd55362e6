/-
  Layer 20 (tx): the code's Freed, Free.
-/
import Derived.Test.YtcemiclbeocnjaaTk3
set_option linter.unusedVariables false
set_option linter.unusedSimpArgs false
namespace Go.Proofs.Ytcemiclbeocnjaa
open Go.RowKit Go.ChangeShapes Go.WideShapes Go.Deep Go.Maps

theorem mem_at {l : List Int} {k : Nat} {x : Int} (h : k < l.length) (e : l.getD k default = x) : x ∈ l := by
  rw [← e, List.getD_eq_getElem?_getD, List.getElem?_eq_getElem h]
  exact List.getElem_mem _
theorem mem_none {l : List Int} {x : Int} (h : ∀ j, j < l.length → l.getD j default ≠ x) : ¬ x ∈ l := by
  intro q
  obtain ⟨j, hj, rfl⟩ := List.mem_iff_getElem.1 q
  have := h j hj
  rw [List.getD_eq_getElem?_getD, List.getElem?_eq_getElem hj] at this
  exact this rfl

set_option maxHeartbeats 1000000 in
theorem index_any (v : Value) (l : List Int) (x : Int) (w : World) (hlen : l.length ≤ 10000000) (hv : EL 1 iE w v l) :
    Calls Try.prog 100 #[v, .int .i64 x] w fun e w' => ∃ r : Int, (e = .returned (.int .i64 r) ∧ -1 ≤ r ∧ r ≤ 10000000 ∧ decide (0 ≤ r) = decide (x ∈ l)) ∧ Below w.heap.size w w' := by
  obtain ⟨n, hn⟩ : ∃ n, l.length = n := ⟨_, rfl⟩
  obtain ⟨A, cap, rfl, hC⟩ := hv.form hn
  have hT := Lib.hid (fun (h : ∀ j, j < n → l.getD j default ≠ x) => show decide ((0 : Int) ≤ -1) = decide (x ∈ l) from by
    rw [show decide ((0 : Int) ≤ -1) = false by decide, decide_eq_false (mem_none (fun j hj => h j (by omega)))])
  have hH := Lib.hid (fun k (h : k < n) (hw : l.getD k default = x) => show decide ((0 : Int) ≤ (k : Int)) = decide (x ∈ l) from by
    rw [decide_eq_true (show (0 : Int) ≤ (k : Int) by omega), decide_eq_true (mem_at (by omega) hw)])
  replace hC := Lib.hid hC
  have hlen' : n ≤ 10000000 := by omega
  clear hlen hv
  replace hn := Lib.hid hn
  go_enter Try.func100, Try.ntmps100
  go_wp2_with fail
  go_loopw [8] (fun i wr => ∃ k : Nat, k ≤ n ∧ i = .int .i64 k ∧ Hid (∀ j, j < k → l.getD j default ≠ x) ∧ Below w.heap.size w wr) (fun i _ => n + 1 - (intOf i).toNat)
  case atStart => exact ⟨0, Nat.zero_le _, rfl, (fun j hj => by omega), Below.refl _ _⟩
  case round =>
    obtain ⟨k, hk, rfl, hF, hB⟩ := hrel
    by_cases hlt : k < n
    · obtain ⟨g, off, rfl, hcap, _, hg, hcl⟩ := hC.out wr k hB hlt
      have c0 := hcl 0 (by omega)
      clear hcl
      rw [Nat.add_zero, Nat.mul_one] at c0
      have hlt' : (k : Int) < (n : Int) := by omega
      have hH2 := Lib.hid (hH.out k hlt)
      have hF2 := Lib.hid (fun (h : l.getD k default ≠ x) j (hj : j < k + 1) => show l.getD j default ≠ x from by
        by_cases e : j = k
        · subst e; exact h
        · exact hF.out j (by omega))
      generalize l.getD k default = y at *
      replace c0 : wr.cell? ⟨g, off + k, none⟩ = some (.int .i64 y) := c0
      by_cases q : y = x
      · subst q
        have hR := Lib.hid (hH2.out rfl)
        have t1 : (y == y) = true := by simp
        clear hH2 hF2
        go_wp2_with fail
        go_ret
        exact ⟨_, ⟨rfl, by omega, by omega, hR.out⟩, hB⟩
      · have hF3 := Lib.hid (hF2.out q)
        have t1 : (x == y) = false := by rw [beq_eq_false_iff_ne]; exact fun e => q e.symm
        clear hH2 hF2
        go_wp2_with fail
        go_roundw
        case rel => exact ⟨k + 1, by omega, by go_num, hF3.out, hB⟩
        case measure => simp [intOf]; omega
    · have hR := Lib.hid (hT.out (fun j hj => hF.out j (by omega)))
      obtain rfl : k = n := by omega
      go_wp2_with fail
      go_ret
      exact ⟨_, ⟨rfl, by omega, by omega, hR.out⟩, hB⟩

set_option maxHeartbeats 1000000 in
theorem contains_any (v : Value) (l : List Int) (x : Int) (w : World) (hlen : l.length ≤ 10000000) (hv : EL 1 iE w v l) :
    Calls Try.prog 88 #[v, .int .i64 x] w fun e w' => e = .returned (.bool (decide (x ∈ l))) ∧ Below w.heap.size w w' := by
  have hI := index_any v l x w hlen hv
  obtain ⟨A, cap, rfl, hC⟩ := hv.form rfl
  clear hC hv hlen
  generalize l.length = n at *
  go_enter Try.func88, Try.ntmps88
  go_wp2_with (go_at_call 100; refine hI.mono ?_; rintro e w1 ⟨r, ⟨rfl, h1, h2, h3⟩, hb⟩)
  go_ret
  exact ⟨ret_b (by rw [← h3]), hb⟩

set_option maxHeartbeats 1000000 in
theorem Freed_any (B : Nat) (F : Nat → Prop) (s : St) (x : Int) (w : World) (h : TxAt w B F s) (hlen : s.gone.length ≤ 10000000) :
    Calls Try.prog 64 #[.pointer (some ⟨B, 0, none⟩), .int .i64 x] w fun e w' => e = .returned (.bool (decide (x ∈ s.gone))) ∧ Below w.heap.size w w' := by
  obtain ⟨M, v0, v4, hR⟩ := h
  obtain ⟨⟨c0, c1, c2, c3, c4, c5, c6⟩, fz⟩ := hR.cells
  have hE := hR.gone.el iE_len
  have hI := contains_any v4 s.gone x w hlen hE
  obtain ⟨A, cap, rfl, hC⟩ := hE.form rfl
  clear hC hE hlen hR fz c0 c1 c2 c3 c5 c6
  obtain ⟨noted, fresh, n, depth, bad, gone, root, named⟩ := s
  simp only [] at *
  generalize gone.length = m at *
  go_enter Try.func64, Try.ntmps64
  go_wp2_with (go_at_call 88; refine hI.mono ?_; rintro e w1 ⟨rfl, hb⟩)
  go_ret
  exact ⟨rfl, hb⟩

set_option maxHeartbeats 1000000 in
theorem Free_no (B : Nat) (F : Nat → Prop) (s : St) (x : Int) (w : World) (h : TxAt w B F s) (hlen : s.gone.length ≤ 1000000) (hx : x ∈ s.gone) :
    Calls Try.prog 63 #[.pointer (some ⟨B, 0, none⟩), .int .i64 x] w fun e w' => e = .returned (.bool false) ∧ Below w.heap.size w w' := by
  have hI := Freed_any B F s x w h (by omega)
  rw [decide_eq_true hx] at hI
  clear h hlen hx
  go_enter Try.func63, Try.ntmps63
  go_wp2_with (go_at_call 64; refine hI.mono ?_; rintro e w1 ⟨rfl, hb⟩)
  go_ret
  exact ⟨rfl, hb⟩

set_option maxHeartbeats 1000000 in
theorem Free_yes (B : Nat) (F : Nat → Prop) (s : St) (x : Int) (w : World) (h : TxAt w B F s) (hlen : s.gone.length ≤ 1000000) (hx : ¬ x ∈ s.gone) :
    Calls Try.prog 63 #[.pointer (some ⟨B, 0, none⟩), .int .i64 x] w fun e w' => e = .returned (.bool true) ∧ (∃ F', TxAt w' B F' { s with gone := s.gone ++ [x] } ∧ ∀ k, F' k → F k ∨ w.heap.size ≤ k) ∧ Chg F w w' := by
  have hI := Freed_any B F s x w h (by omega)
  rw [decide_eq_false hx] at hI
  obtain ⟨M, v0, v4, hR⟩ := h
  clear hx
  go_enter Try.func63, Try.ntmps63
  go_wp2_with (first
    | (go_at_call 64; refine hI.mono ?_; rintro e w1 ⟨rfl, hb⟩
       have hR1 := hR.chg (Chg.of_below (fun _ => False) (hb.trans ((Below.refl _ w1).alloc hb.size (.cells #[.int .i64 x] (3 : Nat))))) (fun _ _ q => q)
       obtain ⟨⟨c0, c1, c2, c3, c4, c5, c6⟩, fz⟩ := (hR.chg (Chg.of_below (fun _ => False) hb) (fun _ _ q => q)).cells
       obtain ⟨v', w2, hrun, ho, hg, hn, _⟩ := appE iT hR1.gone (one_int w1 x) (Nat.zero_le _) hlen (by simp)
       obtain ⟨g', cap', rfl, hg0, hg1, hg2⟩ := ho.form (by simp)
       have hRR := Lib.hid (hR1.goneTo hg ho)
       have hch := Lib.hid (show Chg F w w2 from (Chg.of_below F (hb.trans ((Below.refl _ w1).alloc hb.size (.cells #[.int .i64 x] (3 : Nat))))).trans (Chg.of_grown (S := F) hg (fun k e => .inl (hR.f4 k e))) (fun j q => .inl q))
       obtain ⟨d4, f4⟩ := hR1.goneCell hg
       have hsz := hb.size
       have hFB := Lib.hid hR.fB
       have hF4 := Lib.hid hR.f4
       replace hn := Lib.hid hn
       generalize (s.gone ++ [x]).length = m at *
       obtain ⟨A4, cap4, rfl, _⟩ := (hR.gone.el iE_len).form rfl
       clear hR1 hR c0 c1 c2 c3 c5 c6 fz ho hg hg0 hg1 hg2 hI hlen)
    | (at_builtin; refine wpList_append_run rfl _ _ 43 rfl _ _ _ rfl rfl hrun ?_))
  go_ret
  refine ⟨rfl, ⟨_, ⟨_, _, _, hRR.out⟩, fun k e => ?_⟩, hch.out.trans (Chg.setCell (S := F) _ _ _ _ hFB.out) (fun j q => .inl q)⟩
  rcases e with e | e
  · exact .inl e
  · rcases hn.out with q | q
    · exact .inl (hF4.out k (by rw [← q]; exact e))
    · rw [q] at e; cases e; exact .inr (by simp; omega)
end Go.Proofs.Ytcemiclbeocnjaa
