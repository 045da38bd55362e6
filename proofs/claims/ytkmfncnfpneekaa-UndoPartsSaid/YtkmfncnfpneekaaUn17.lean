/-
  The laws of package undo: UndoParts.
-/
import Derived.Test.YtkmfncnfpneekaaUn16
set_option linter.unusedVariables false
set_option linter.unusedSimpArgs false
namespace Go.Proofs.Ytkmfncnfpneekaa
open Go.RowKit Go.ChangeShapes Go.WideShapes Go.Deep

/-- two lists of entries, one behind the other in a row of the call's own -/
theorem EN.join {w : World} {u1 u2 : Value} {l m : List Pe} (h1 : EN w u1 l) (h2 : EN w u2 m) (hl : l.length ≤ 1000) (hm : m.length ≤ 1000) :
    ∃ v1 w1 v2 w2, (Builtin.append_ #[34, 34] 34 #[.slice (some ⟨w.heap.size, 0, none⟩) 0 0, u1]).run Try.prog (w.alloc (.cells #[] (25 : Nat))) = .ok v1 w1 ∧
      (Builtin.append_ #[34, 34] 34 #[v1, u2]).run Try.prog w1 = .ok v2 w2 ∧ EN w2 v2 (l ++ m) ∧ Below w.heap.size w w2 := by
  obtain ⟨xs, e1, k1, rfl⟩ := h1
  obtain ⟨ys, e2, k2, rfl⟩ := h2
  rw [List.length_map] at hl hm
  have hB : Below w.heap.size w (w.alloc (.cells #[] (25 : Nat))) := (Below.refl _ _).alloc (Nat.le_refl _) _
  have hO : OwnE 25 2 eS (w.alloc (.cells #[] (25 : Nat))) w.heap.size (.slice (some ⟨w.heap.size, 0, none⟩) 0 0) ([] : List Ex) := OwnE.lit 25 eS_len w ([] : List Ex) _ rfl (by simp)
  obtain ⟨v1, w1, r1, o1, g1, _⟩ := appE enT hO (e1.keep hB) hB.size (by simp) (by omega)
  rw [List.nil_append] at o1
  have hB1 : Below w.heap.size w w1 := hB.trans ((Below.refl _ _).grown g1 hB.size (fun j hj => (hO.lt j hj).1))
  obtain ⟨v2, w2, r2, o2, g2, _⟩ := appE enT o1 (e2.keep hB1) hB1.size (by omega) (by omega)
  have hB2 : Below w.heap.size w w2 := hB1.trans ((Below.refl _ _).grown g2 hB1.size (fun j hj => (o1.lt j hj).1))
  refine ⟨v1, w1, v2, w2, r1, r2, ⟨xs ++ ys, o2.el eS_len, fun x hx => ?_, by rw [List.map_append]⟩, hB2⟩
  rcases List.mem_append.1 hx with q | q
  · exact (k1 x q).keep hB2
  · exact (k2 x q).keep hB2
theorem backL_app (I : List Nat) (l m : List Pe) : backL I (l ++ m) = backL (backL I m) l := by
  unfold backL
  rw [List.foldr_append]
theorem EN.sl {w : World} {v : Value} {l : List Pe} {n : Nat} (h : EN w v l) (hn : l.length = n) : ∃ A cap, v = .slice A n cap := by
  obtain ⟨A, cap, hv, _⟩ := h.form hn
  exact ⟨A, cap, hv⟩

set_option maxRecDepth 10000 in
set_option maxHeartbeats 4000000 in
theorem undoParts (vI v u : Value) (I : List Nat) (l m : List Pe) (w : World) (hI : KL .u64 w vI I) (hv : EN w v l) (hu : EN w u m) (hz : l.length ≤ 9223372036854775807) (hy : m.length ≤ 9223372036854775807) :
    Calls Try.prog 9 #[vI, v, u] w fun e w' => e = .returned (.bool true) ∧ Below w.heap.size w w' := by
  have hAw := awake13 w
  obtain ⟨nI, hnI⟩ : ∃ n, I.length = n := ⟨_, rfl⟩
  obtain ⟨n, hn⟩ : ∃ n, l.length = n := ⟨_, rfl⟩
  obtain ⟨n2, hn2⟩ : ∃ n, m.length = n := ⟨_, rfl⟩
  obtain ⟨AI, cI, rfl, _⟩ := hI.form hnI
  obtain ⟨A, cap, rfl⟩ := hv.sl hn
  obtain ⟨A2, cap2, rfl⟩ := hu.sl hn2
  have hIh := Lib.hid hI
  have hvh := Lib.hid hv
  have huh := Lib.hid hu
  have hzh := Lib.hid hz
  have hyh := Lib.hid hy
  have hnh := Lib.hid hn
  have hnh2 := Lib.hid hn2
  have hnIh := Lib.hid hnI
  clear hI hv hz hn hnI hu hy hn2
  by_cases a1 : 60 < nI
  · have a1' : (60 : Int) < (nI : Int) := by omega
    go_enter Try.func9, Try.ntmps9
    go_wp2_with (first
      | (go_at_call 10; refine hAw.mono ?_; rintro e w1 ⟨rfl, hb1⟩
         have hF := few_any _ l w1 (hvh.out.keep hb1) hzh.out
         clear hAw)
      | (go_at_call 19; refine hF.mono ?_; rintro e w2 ⟨⟨t, rfl, ht⟩, hb⟩
         have hb2 := hb1.trans (hb.mono hb1.size)
         have hG := few_any _ m w2 (huh.out.keep hb2) hyh.out
         clear hF hb hb1)
      | (go_at_call 19; refine hG.mono ?_; rintro e w3 ⟨⟨t2, rfl, ht2⟩, hb⟩
         have hb3 := hb2.trans (hb.mono hb2.size)
         clear hG hb hb2))
    all_goals (go_ret; exact ⟨rfl, hb3⟩)
  have a1' : (nI : Int) ≤ 60 := by omega
  have a1'' : decide ((60 : Int) < (nI : Int)) = false := decide_eq_false (by omega)
  by_cases a2 : 12 < n
  · skip
    go_enter Try.func9, Try.ntmps9
    go_wp2_with (first
      | (go_at_call 10; refine hAw.mono ?_; rintro e w1 ⟨rfl, hb1⟩
         have hF := few_any _ l w1 (hvh.out.keep hb1) hzh.out
         clear hAw)
      | (go_at_call 19; refine hF.mono ?_; rintro e w2 ⟨⟨t, rfl, ht⟩, hb⟩
         have hb2 := hb1.trans (hb.mono hb1.size)
         have hG := few_any _ m w2 (huh.out.keep hb2) hyh.out
         obtain rfl : t = false := by
           cases t with
           | false => rfl
           | true => have := (ht rfl).2; have := hnh.out; omega
         clear hF hb hb1)
      | (go_at_call 19; refine hG.mono ?_; rintro e w3 ⟨⟨t2, rfl, ht2⟩, hb⟩
         have hb3 := hb2.trans (hb.mono hb2.size)
         clear hG hb hb2))
    all_goals (go_ret; exact ⟨rfl, hb3⟩)
  by_cases a3 : 12 < n2
  · skip
    go_enter Try.func9, Try.ntmps9
    go_wp2_with (first
      | (go_at_call 10; refine hAw.mono ?_; rintro e w1 ⟨rfl, hb1⟩
         have hF := few_any _ l w1 (hvh.out.keep hb1) hzh.out
         clear hAw)
      | (go_at_call 19; refine hF.mono ?_; rintro e w2 ⟨⟨t, rfl, ht⟩, hb⟩
         have hb2 := hb1.trans (hb.mono hb1.size)
         have hG := few_any _ m w2 (huh.out.keep hb2) hyh.out
         clear hF hb hb1)
      | (go_at_call 19; refine hG.mono ?_; rintro e w3 ⟨⟨t2, rfl, ht2⟩, hb⟩
         have hb3 := hb2.trans (hb.mono hb2.size)
         obtain rfl : t2 = false := by
           cases t2 with
           | false => rfl
           | true => have := (ht2 rfl).2; have := hnh2.out; omega
         clear hG hb hb2))
    all_goals (go_ret; exact ⟨rfl, hb3⟩)
  obtain ⟨k2, hk2⟩ : ∃ k2, n + n2 = k2 := ⟨_, rfl⟩
  go_enter Try.func9, Try.ntmps9
  go_wp2_with (first
    | (go_at_call 10; refine hAw.mono ?_; rintro e w1 ⟨rfl, hb1⟩
       have hF := few_any _ l w1 (hvh.out.keep hb1) hzh.out
       clear hAw)
    | (go_at_call 19; refine hF.mono ?_; rintro e w2 ⟨⟨t, rfl, ht⟩, hb⟩
       have hb2 := hb1.trans (hb.mono hb1.size)
       have hG := few_any _ m w2 (huh.out.keep hb2) hyh.out
       clear hF hb hb1)
    | (go_at_call 19; refine hG.mono ?_; rintro e w3 ⟨⟨t2, rfl, ht2⟩, hb⟩
       have hb3 := hb2.trans (hb.mono hb2.size)
       obtain ⟨va, wa, vb, wb, hr1, hr2, hEN, hbJ⟩ := EN.join (hvh.out.keep hb3) (huh.out.keep hb3) (by rw [hnh.out]; omega) (by rw [hnh2.out]; omega)
       obtain ⟨A9, c9, rfl, hC9⟩ := hEN.form (n := k2) (by rw [List.length_append, hnh.out, hnh2.out, hk2])
       have hENh := Lib.hid hEN
       have hC9h := Lib.hid hC9
       have hb4 := hb3.trans (hbJ.mono hb3.size)
       clear hEN hC9
       clear hG hb hb2)
    | (at_builtin; refine wpList_append_run rfl _ _ 34 rfl _ _ _ rfl rfl hr1 ?_; clear hr1)
    | (at_builtin; refine wpList_append_run rfl _ _ 34 rfl _ _ _ rfl rfl hr2 ?_; clear hr2))
  · all_goals (go_ret; exact ⟨rfl, hb3⟩)
  · have htt : t = true := by assumption
    have ht3 : t2 = true := by
      have : (!t2) = false := by assumption
      simpa using this
    have hl20 : ∀ x ∈ l ++ m, x.2.length ≤ 20 := fun x hx => by
      rcases List.mem_append.1 hx with q | q
      · exact (ht htt).1 x q
      · exact (ht2 ht3).1 x q
    have hl20l := (ht htt).1
    have hl20m := (ht2 ht3).1
    have hl : (l ++ m).length = k2 := by rw [List.length_append, hnh.out, hnh2.out, hk2]
    have hk9 : k2 ≤ 24 := by omega
    have hnl : Hid ((∀ x ∈ l ++ m, Near x) → (∀ x ∈ l, Near x) ∧ ∀ x ∈ m, Near x) := fun h => ⟨fun x hx => h x (List.mem_append_left _ hx), fun x hx => h x (List.mem_append_right _ hx)⟩
    have hbb := Lib.hid (backL_app I l m)
    replace hl := Lib.hid hl
    generalize l ++ m = al at *
    clear ht ht2 htt ht3 hb3 hbJ
    go_loopw [11] (fun i wr => ∃ k : Nat, k ≤ k2 ∧ i = .int .i64 k ∧ Hid (∀ j, j < k → Mid (al.getD j default).1) ∧ Below wb.heap.size wb wr) (fun i _ => k2 + 1 - (intOf i).toNat)
    case atStart => exact ⟨0, Nat.zero_le _, rfl, fun j hj => absurd hj (Nat.not_lt_zero _), Below.refl _ _⟩
    case round =>
      obtain ⟨k, hk, rfl, hF, hB⟩ := hrel
      have hB' := hb4.trans (hB.mono hb4.size)
      by_cases hlt : k < k2
      · obtain ⟨g, off, A2, c2, rfl, hcap, hg, c0, c1, _⟩ := hC9h.out wr k hB hlt
        have hlt' : (k : Int) < (k2 : Int) := by omega
        have hnew : Hid (Mid (al.getD k default).1 → ∀ j, j < k + 1 → Mid (al.getD j default).1) := fun q j hj => by
          by_cases e : j = k
          · subst e; exact q
          · exact hF.out j (by omega)
        generalize (al.getD k default).1 = a at *
        by_cases q1 : a < -1099511627776
        · have q1' : decide (a < -1099511627776) = true := decide_eq_true q1
          go_wp2_with fail
          go_ret
          exact ⟨rfl, hB'⟩
        have q1' : decide (a < -1099511627776) = false := decide_eq_false q1
        by_cases q2 : 1099511627776 < a
        · have q2' : decide (1099511627776 < a) = true := decide_eq_true q2
          go_wp2_with fail
          go_ret
          exact ⟨rfl, hB'⟩
        have q2' : decide (1099511627776 < a) = false := decide_eq_false q2
        have hR := Lib.hid (hnew.out ⟨by omega, by omega⟩)
        go_wp2_with fail
        go_roundw
        case rel => exact ⟨k + 1, by omega, by go_num, hR, hB⟩
        case measure => simp [intOf]; omega
      · obtain rfl : k = k2 := by omega
        have hnear := near_of hl20 (fun j hj => hF.out j (by have := hl.out; omega))
        obtain ⟨hnl1, hnl2⟩ := hnl.out hnear
        replace hnear := Lib.hid hnear
        replace hnl1 := Lib.hid hnl1
        replace hnl2 := Lib.hid hnl2
        have h1 := Back_any _ _ I al wr (hIh.out.keep hB') (by rw [hnIh.out]; omega) (by rw [hl.out]; omega) (hENh.out.keep hB) hnear.out
        have hlm : Hid ((backL I m).length = nI) := (backL_len I m).trans hnIh.out
        have hla : Hid ((backL I al).length = nI) := (backL_len I al).trans hnIh.out
        go_wp2_with (first
          | (go_at_call 20; refine h1.mono ?_; rintro e w3 ⟨v3, rfl, hO3, hb⟩
             have hB3 := hB'.trans (hb.mono hB'.size)
             have h2 := Back_any _ _ I m w3 (hIh.out.keep hB3) (by rw [hnIh.out]; omega) (by rw [hnh2.out]; omega) (huh.out.keep hB3) hnl2.out
             clear h1 hb)
          | (go_at_call 20; refine h2.mono ?_; rintro e w4 ⟨v4, rfl, hO4, hb⟩
             have hB4 := hB3.trans (hb.mono hB3.size)
             have hO4' := hO3.keep hb
             have h3 := Back_any _ _ (backL I m) l w4 hO4.kl (by rw [hlm.out]; omega) (by rw [hnh.out]; omega) (hvh.out.keep hB4) hnl1.out
             clear h2 hb hB3 hO3 hO4)
          | (go_at_call 20; refine h3.mono ?_; rintro e w5 ⟨v5, rfl, hO5, hb⟩
             have hB5 := hB4.trans (hb.mono hB4.size)
             have hWd := words_any v3 v5 _ _ w5 (by rw [hla.out]; omega) (hO4'.keep hb).kl hO5.kl
             rw [decide_eq_true hbb.out] at hWd
             clear h3 hb hB4 hO4' hO5)
          | (go_at_call 13; refine hWd.mono ?_; rintro e w6 ⟨rfl, hb⟩
             have hB6 := hB5.trans (hb.mono hB5.size)
             clear hWd hb hB5))
        go_ret
        exact ⟨ret_b (by simp), hB6⟩
  · all_goals (go_ret; exact ⟨rfl, hb3⟩)
end Go.Proofs.Ytkmfncnfpneekaa
