/-
  The laws of package undo: UndoBacks, UndoParts.
-/
import Derived.Test.YtkmfncnfpneekaaUn15
set_option linter.unusedVariables false
set_option linter.unusedSimpArgs false
namespace Go.Proofs.Ytkmfncnfpneekaa
open Go.RowKit Go.ChangeShapes Go.WideShapes Go.Deep

def Mid (z : Int) : Prop := -1099511627776 ≤ z ∧ z ≤ 1099511627776
theorem near_of {l : List Pe} (h : ∀ x ∈ l, x.2.length ≤ 20) (hm : ∀ j, j < l.length → Mid (l.getD j default).1) : ∀ x ∈ l, Near x := fun x hx => by
  obtain ⟨j, hj, rfl⟩ := List.mem_iff_getElem.1 hx
  have h1 := hm j hj
  rw [List.getD_eq_getElem?_getD, List.getElem?_eq_getElem hj] at h1
  have h2 := h _ (List.getElem_mem hj)
  simp only [Option.getD_some] at h1
  exact ⟨h1.1, h1.2, by omega⟩
theorem i64_of {w : World} {v : Value} {l : List Pe} (h : EN w v l) : True := trivial

set_option maxRecDepth 10000 in
set_option maxHeartbeats 4000000 in
theorem undoBacks (vI v : Value) (I : List Nat) (l : List Pe) (m : Int) (w : World) (hI : KL .u64 w vI I) (hv : EN w v l) (hz : l.length ≤ 9223372036854775807) :
    Calls Try.prog 5 #[vI, v, .int .i64 m] w fun e w' => e = .returned (.bool true) ∧ Below w.heap.size w w' := by
  have hAw := awake13 w
  obtain ⟨nI, hnI⟩ : ∃ n, I.length = n := ⟨_, rfl⟩
  obtain ⟨n, hn⟩ : ∃ n, l.length = n := ⟨_, rfl⟩
  obtain ⟨AI, cI, rfl, _⟩ := hI.form hnI
  obtain ⟨A, cap, rfl, hC⟩ := hv.form hn
  replace hC := Lib.hid hC
  have hIh := Lib.hid hI
  have hvh := Lib.hid hv
  have hz9 : n ≤ 9223372036854775807 := by omega
  have hzh := Lib.hid hz
  have hnh := Lib.hid hn
  have hnIh := Lib.hid hnI
  clear hI hv hz hn hnI
  by_cases a1 : 60 < nI
  · have a1' : (60 : Int) < (nI : Int) := by omega
    go_enter Try.func5, Try.ntmps5
    go_wp2_with (first
      | (go_at_call 10; refine hAw.mono ?_; rintro e w1 ⟨rfl, hb1⟩
         have hF := few_any _ l w1 (hvh.out.keep hb1) hzh.out
         clear hAw)
      | (go_at_call 19; refine hF.mono ?_; rintro e w2 ⟨⟨t, rfl, ht⟩, hb⟩
         have hb2 := hb1.trans (hb.mono hb1.size)
         clear hF hb hb1))
    all_goals (go_ret; exact ⟨rfl, hb2⟩)
  have a1' : (nI : Int) ≤ 60 := by omega
  have a1'' : decide ((60 : Int) < (nI : Int)) = false := decide_eq_false (by omega)
  by_cases a2 : m < -1099511627776
  · have a2' : decide (m < -1099511627776) = true := decide_eq_true a2
    go_enter Try.func5, Try.ntmps5
    go_wp2_with (first
      | (go_at_call 10; refine hAw.mono ?_; rintro e w1 ⟨rfl, hb1⟩
         have hF := few_any _ l w1 (hvh.out.keep hb1) hzh.out
         clear hAw)
      | (go_at_call 19; refine hF.mono ?_; rintro e w2 ⟨⟨t, rfl, ht⟩, hb⟩
         have hb2 := hb1.trans (hb.mono hb1.size)
         clear hF hb hb1))
    all_goals (go_ret; exact ⟨rfl, hb2⟩)
  have a2' : decide (m < -1099511627776) = false := decide_eq_false a2
  by_cases a3 : 1099511627776 < m
  · have a3' : decide (1099511627776 < m) = true := decide_eq_true a3
    go_enter Try.func5, Try.ntmps5
    go_wp2_with (first
      | (go_at_call 10; refine hAw.mono ?_; rintro e w1 ⟨rfl, hb1⟩
         have hF := few_any _ l w1 (hvh.out.keep hb1) hzh.out
         clear hAw)
      | (go_at_call 19; refine hF.mono ?_; rintro e w2 ⟨⟨t, rfl, ht⟩, hb⟩
         have hb2 := hb1.trans (hb.mono hb1.size)
         clear hF hb hb1))
    all_goals (go_ret; exact ⟨rfl, hb2⟩)
  have a3' : decide (1099511627776 < m) = false := decide_eq_false a3
  go_enter Try.func5, Try.ntmps5
  go_wp2_with (first
    | (go_at_call 10; refine hAw.mono ?_; rintro e w1 ⟨rfl, hb1⟩
       have hF := few_any _ l w1 (hvh.out.keep hb1) hzh.out
       clear hAw)
    | (go_at_call 19; refine hF.mono ?_; rintro e w2 ⟨⟨t, rfl, ht⟩, hb⟩
       have hb2 := hb1.trans (hb.mono hb1.size)
       clear hF hb hb1))
  · rename_i htt _ _
    have hFP := ht (by assumption)
    have hl20 := hFP.1
    have hl12 : n ≤ 12 := by have := hFP.2; have := hnh.out; omega
    clear ht hFP
    go_loopw [9] (fun i wr => ∃ k : Nat, k ≤ n ∧ i = .int .i64 k ∧ Hid (∀ j, j < k → Mid (l.getD j default).1) ∧ Below w.heap.size w wr) (fun i _ => n + 1 - (intOf i).toNat)
    case atStart => exact ⟨0, Nat.zero_le _, rfl, fun j hj => absurd hj (Nat.not_lt_zero _), hb2⟩
    case round =>
      clear hb2
      obtain ⟨k, hk, rfl, hF, hB⟩ := hrel
      by_cases hlt : k < n
      · obtain ⟨g, off, A2, c2, rfl, hcap, hg, c0, c1, _⟩ := hC.out wr k hB hlt
        have hlt' : (k : Int) < (n : Int) := by omega
        have hnew : Hid (Mid (l.getD k default).1 → ∀ j, j < k + 1 → Mid (l.getD j default).1) := fun q j hj => by
          by_cases e : j = k
          · subst e; exact q
          · exact hF.out j (by omega)
        generalize (l.getD k default).1 = a at *
        by_cases q1 : a < -1099511627776
        · have q1' : decide (a < -1099511627776) = true := decide_eq_true q1
          go_wp2_with fail
          go_ret
          exact ⟨rfl, hB⟩
        have q1' : decide (a < -1099511627776) = false := decide_eq_false q1
        by_cases q2 : 1099511627776 < a
        · have q2' : decide (1099511627776 < a) = true := decide_eq_true q2
          go_wp2_with fail
          go_ret
          exact ⟨rfl, hB⟩
        have q2' : decide (1099511627776 < a) = false := decide_eq_false q2
        have hR := Lib.hid (hnew.out ⟨by omega, by omega⟩)
        go_wp2_with fail
        go_roundw
        case rel => exact ⟨k + 1, by omega, by go_num, hR, hB⟩
        case measure => simp [intOf]; omega
      · obtain rfl : k = n := by omega
        have hnear := Lib.hid (near_of hl20 (fun j hj => hF.out j (by have := hnh.out; omega)))
        have hBk := Lib.hid (fun w' (hb : Below w.heap.size w w') => Back_any _ _ I l w' (hIh.out.keep hb) (by rw [hnIh.out]; omega) (by rw [hnh.out]; omega) (hvh.out.keep hb) hnear.out)
        have hRb := Lib.hid (fun w' (hb : Below w.heap.size w w') => refBack_any _ _ I l w' (hIh.out.keep hb) (by rw [hnIh.out]; omega) (by rw [hnh.out]; omega) (hvh.out.keep hb) hnear.out)
        have hWi := Lib.hid (fun w' (hb : Below w.heap.size w w') => within_any _ l m w' (by rw [hnh.out]; omega) (by omega) (by omega) hnear.out (hvh.out.keep hb))
        have hRw := Lib.hid (fun w' (hb : Below w.heap.size w w') => refWithin_any _ l m w' (by rw [hnh.out]; omega) (by omega) (by omega) hnear.out (hvh.out.keep hb))
        have hbl : Hid ((backL I l).length = nI) := (backL_len I l).trans hnIh.out
        have h1 := hBk.out wr hB
        generalize withinB l m = wb at *
        go_wp2_with (first
          | (go_at_call 20; refine h1.mono ?_; rintro e w3 ⟨v3, rfl, hO3, hb⟩
             have hB3 := hB.trans (hb.mono hB.size)
             have h2 := hRb.out w3 hB3
             clear h1 hb hB)
          | (go_at_call 21; refine h2.mono ?_; rintro e w4 ⟨v4, rfl, hO4, hb⟩
             have hB4 := hB3.trans (hb.mono hB3.size)
             have hWd := words_any v3 v4 _ _ w4 (by rw [hbl.out]; omega) (hO3.keep hb).kl hO4.kl
             rw [decide_eq_true rfl] at hWd
             clear h2 hb hB3 hO3 hO4)
          | (go_at_call 13; refine hWd.mono ?_; rintro e w5 ⟨rfl, hb⟩
             have hB5 := hB4.trans (hb.mono hB4.size)
             have h3 := hWi.out w5 hB5
             clear hWd hb hB4)
          | (go_at_call 22; refine h3.mono ?_; rintro e w6 ⟨rfl, hb⟩
             have hB6 := hB5.trans (hb.mono hB5.size)
             have h4 := hRw.out w6 hB6
             clear h3 hb hB5)
          | (go_at_call 23; refine h4.mono ?_; rintro e w7 ⟨rfl, hb⟩
             have hB7 := hB6.trans (hb.mono hB6.size)
             clear h4 hb hB6))
        go_ret
        exact ⟨ret_b (by simp), hB7⟩
  all_goals (go_ret; exact ⟨rfl, hb2⟩)
end Go.Proofs.Ytkmfncnfpneekaa
