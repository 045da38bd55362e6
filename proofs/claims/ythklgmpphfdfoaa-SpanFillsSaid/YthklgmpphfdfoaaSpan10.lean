/-
  The laws of package span: SpanRight.
-/
import Derived.Test.YthklgmpphfdfoaaSpan8
import Derived.Test.YthklgmpphfdfoaaSpanO
set_option linter.unusedVariables false
namespace Go.Proofs.Ythklgmpphfdfoaa
open Go.RowKit

set_option maxHeartbeats 1000000 in
theorem spanRight_big (v : Value) (l : List Sp) (w : World) (hv : PL w v l) (hbig : 24 < l.length) :
    Calls Try.prog 10 #[v] w fun e w' => e = .returned (.bool true) ∧ Below w.heap.size w w' := by
  obtain ⟨A, cap, rfl, _⟩ := hv.form rfl
  have hb : (24 : Int) < (l.length : Int) := by omega
  clear hv
  go_enter Try.func10, Try.ntmps10
  go_wp2_with fail
  refine (awake04 _).mono ?_
  rintro e w1 ⟨rfl, hb1⟩
  go_wp2_with fail
  go_ret
  exact ⟨rfl, hb1⟩
def LB (M : Int) (x : Sp) : Prop := -M ≤ x.1 ∧ x.1 ≤ M ∧ -M ≤ x.2 ∧ x.2 ≤ M
theorem LB.all {M : Int} {l : List Sp} (h : ∀ j, j < l.length → LB M (l.getD j (0, 0))) (hM : M ≤ 1099511627776) : SBs l := fun x hx => by
  obtain ⟨i, hi, rfl⟩ := List.mem_iff_getElem.1 hx
  have := h i hi
  rw [List.getD_eq_getElem?_getD, List.getElem?_eq_getElem hi, Option.getD_some] at this
  obtain ⟨h1, h2, h3, h4⟩ := this
  unfold SB
  omega
set_option maxRecDepth 10000 in
set_option maxHeartbeats 4000000 in
theorem spanRight (v : Value) (l : List Sp) (w : World) (hl : PI l) (hv : PL w v l) :
    Calls Try.prog 10 #[v] w fun e w' => e = .returned (.bool true) ∧ Below w.heap.size w w' := by
  by_cases hbig : 24 < l.length
  · exact spanRight_big v l w hv hbig
  obtain ⟨n, hn⟩ : ∃ n, l.length = n := ⟨_, rfl⟩
  have hv' := hv
  obtain ⟨A, cap, rfl, hC⟩ := hv'.form hn
  have hln : n ≤ 24 := by omega
  have hb : ¬ (24 : Int) < (n : Int) := by omega
  have hA := Lib.hid (fun (h : ∀ j, j < n → LB 1099511627776 (l.getD j (0, 0))) => LB.all (l := l) (by rw [hn]; exact h) (Int.le_refl _))
  have hR1 := Lib.hid (fun hs w1 (hb : Below w.heap.size w w1) => refRight_any _ l w1 hs (by omega) (hv.keep hb))
  have hR2 := Lib.hid (fun hs w1 (hb : Below w.heap.size w w1) => right_any _ l w1 hs (by omega) (hv.keep hb))
  have hR3 := Lib.hid (fun hs w1 (hb : Below w.heap.size w w1) => total_any _ l w1 hs (by omega) (hv.keep hb))
  have hT := Lib.hid (fun k (h : k < n) => totS_take l k (by omega))
  have hE := Lib.hid (show totS (l.take n) = totS l from by rw [List.take_of_length_le (by omega)])
  have hP := Lib.hid (fun i (hi : i < n) => show -9223372036854775808 ≤ (l.getD i (0, 0)).1 ∧ (l.getD i (0, 0)).1 ≤ 9223372036854775807 ∧ -9223372036854775808 ≤ (l.getD i (0, 0)).2 ∧ (l.getD i (0, 0)).2 ≤ 9223372036854775807 from by
    rw [List.getD_eq_getElem?_getD, List.getElem?_eq_getElem (by omega)]
    exact hl _ (List.getElem_mem _))
  replace hC := Lib.hid hC
  clear hbig hv hl
  replace hn := Lib.hid hn
  go_enter Try.func10, Try.ntmps10
  go_wp2_with fail
  refine (awake04 _).mono ?_
  rintro e w1 ⟨rfl, hb1⟩
  go_wp2_with fail
  go_loopw [4, 5] (fun s x wr => ∃ (k : Nat) (t : Int), k ≤ n ∧ x = .int .i64 k ∧ s = .int .i64 t ∧ Hid (t = totS (l.take k)) ∧ -1099511627776 * (k : Int) ≤ t ∧ t ≤ 1099511627776 * (k : Int) ∧ Hid (∀ j, j < k → LB 1099511627776 (l.getD j (0, 0))) ∧ Below w.heap.size w wr) (fun _ x _ => n + 1 - (intOf x).toNat)
  case atStart => exact ⟨0, 0, Nat.zero_le _, rfl, rfl, rfl, by omega, by omega, fun j hj => by omega, hb1⟩
  case round =>
    obtain ⟨k, t, hk, rfl, rfl, hTk, hb4, hb5, hL, hB⟩ := hrel
    by_cases hlt : k < n
    · obtain ⟨g, off, rfl, hcap, hg, c0, c1⟩ := hC.out wr k hB hlt
      have hlt' : (k : Int) < (n : Int) := by omega
      obtain ⟨p1, p2, p3, p4⟩ := hP.out k hlt
      have hT2 := Lib.hid (show t + (l.getD k (0, 0)).2 = totS (l.take (k + 1)) from by rw [hT.out k hlt, ← hTk.out])
      have hL2 := Lib.hid (fun (h : LB 1099511627776 (l.getD k (0, 0))) j (hj : j < k + 1) => show LB 1099511627776 (l.getD j (0, 0)) from by
        by_cases e : j = k
        · subst e; exact h
        · exact hL.out j (by omega))
      generalize l.getD k (0, 0) = s at *
      obtain ⟨a, b⟩ := s
      simp only [] at c0 c1 p1 p2 p3 p4 hT2
      by_cases q1 : a < -1099511627776
      · go_wp2_with fail
        go_ret
        exact ⟨rfl, hB⟩
      have q1' : -1099511627776 ≤ a := by omega
      clear q1
      by_cases q2 : 1099511627776 < a
      · go_wp2_with fail
        go_ret
        exact ⟨rfl, hB⟩
      have q2' : a ≤ 1099511627776 := by omega
      clear q2
      by_cases q3 : b < -1099511627776
      · go_wp2_with fail
        go_ret
        exact ⟨rfl, hB⟩
      have q3' : -1099511627776 ≤ b := by omega
      clear q3
      by_cases q4 : 1099511627776 < b
      · go_wp2_with fail
        go_ret
        exact ⟨rfl, hB⟩
      have q4' : b ≤ 1099511627776 := by omega
      clear q4
      have hR := Lib.hid (hL2.out ⟨q1', q2', q3', q4'⟩)
      go_wp2_with fail
      go_roundw
      case rel => exact ⟨k + 1, t + b, by omega, by go_num, rfl, hT2, by omega, by omega, hR, hB⟩
      case measure => simp [intOf]; omega
    · obtain rfl : k = n := by omega
      have hSB := hA.out hL.out
      have h1 := Lib.hid (hR1.out hSB)
      have h2 := Lib.hid (hR2.out hSB)
      have h3 := hR3.out hSB
      have hte : totS l = t := by rw [hTk.out, hE.out]
      rw [hte] at h3
      replace h3 := Lib.hid h3
      replace hSB := Lib.hid hSB
      clear hte
      generalize rightB l = r at *
      cases r
      all_goals
        go_wp2_with fail
        refine (h1.out _ hB).mono ?_
        rintro e w2 ⟨rfl, hb2⟩
        have hB2 := hB.trans (hb2.mono hB.size)
        go_wp2_with fail
        refine (h2.out _ hB2).mono ?_
        rintro e w3 ⟨rfl, hb3⟩
        have hB3 := hB2.trans (hb3.mono hB2.size)
        go_wp2_with fail
      · go_ret
        exact ⟨rfl, hB3⟩
      · refine (h3.out _ hB3).mono ?_
        rintro e w4 ⟨rfl, hb4⟩
        have hB4 := hB3.trans (hb4.mono hB3.size)
        have e1 : ((t : Int) == t) = true := by simp
        go_wp2_with fail
        go_ret
        exact ⟨rfl, hB4⟩
end Go.Proofs.Ythklgmpphfdfoaa
