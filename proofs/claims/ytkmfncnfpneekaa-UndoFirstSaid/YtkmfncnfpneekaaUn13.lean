/-
  Package undo: the document's Back.
-/
import Derived.Test.YtkmfncnfpneekaaUn10
set_option linter.unusedVariables false
set_option linter.unusedSimpArgs false
namespace Go.Proofs.Ytkmfncnfpneekaa
open Go.RowKit Go.ChangeShapes Go.WideShapes Go.Deep

/-- what an entry says of a word -/
def hit (x : Pe) (w : Nat) : Option Nat := if x.1 ≤ (w : Int) ∧ (w : Int) < x.1 + (x.2.length : Int) then some (x.2.getD ((w : Int) - x.1).toNat 0) else none
/-- what the first entry that has a word says of it -/
def firstHit : List Pe → Nat → Option Nat
  | [], _ => none
  | x :: l, w => match hit x w with
    | some y => some y
    | none => firstHit l w
theorem firstHit_cons (x : Pe) (l : List Pe) (w : Nat) : firstHit (x :: l) w = (match hit x w with | some y => some y | none => firstHit l w) := rfl
theorem getD_set (J : List Nat) (i w o : Nat) : (J.set i o).getD w 0 = if i = w ∧ i < J.length then o else J.getD w 0 := by
  rw [List.getD_eq_getElem?_getD, List.getD_eq_getElem?_getD, List.getElem?_set]
  by_cases h : i = w
  · subst h
    rw [if_pos rfl]
    by_cases h2 : i < J.length
    · rw [if_pos h2, if_pos ⟨rfl, h2⟩]; rfl
    · rw [if_neg h2, if_neg (fun q => h2 q.2), List.getElem?_eq_none (by omega)]
  · rw [if_neg h, if_neg (fun q => h q.1)]
theorem putB_at : ∀ (os J : List Nat) (a : Int) (w : Nat), w < J.length → (putB J a os).getD w 0 = (hit (a, os) w).getD (J.getD w 0)
  | [], J, a, w, _ => by
    unfold hit
    rw [if_neg (by simp only [List.length_nil]; omega)]
    rfl
  | o :: os, J, a, w, h => by
    unfold putB
    rw [putB_at os _ (a + 1) w (by rw [setI_len]; exact h)]
    unfold hit
    simp only [List.length_cons]
    by_cases h1 : a + 1 ≤ (w : Int) ∧ (w : Int) < a + 1 + (os.length : Int)
    · rw [if_pos h1, if_pos (by omega)]
      simp only [Option.getD_some]
      rw [show ((w : Int) - a).toNat = ((w : Int) - (a + 1)).toNat + 1 from by omega]
      rfl
    · rw [if_neg h1]
      simp only [Option.getD_none]
      by_cases h2 : a = (w : Int)
      · rw [if_pos (by omega)]
        simp only [Option.getD_some]
        unfold setI
        rw [if_pos (by omega), getD_set, if_pos (by omega), show ((w : Int) - a).toNat = 0 from by omega]
        rfl
      · rw [if_neg (by omega)]
        simp only [Option.getD_none]
        unfold setI
        by_cases h3 : 0 ≤ a
        · rw [if_pos h3, getD_set, if_neg (by omega)]
        · rw [if_neg h3]
theorem backL_at (I : List Nat) (w : Nat) (h : w < I.length) : ∀ (l : List Pe), (backL I l).getD w 0 = (firstHit l w).getD (I.getD w 0)
  | [] => rfl
  | x :: l => by
    show (putB (backL I l) x.1 x.2).getD w 0 = _
    rw [putB_at _ _ _ _ (by rw [backL_len]; exact h), backL_at I w h l]
    show (hit x w).getD _ = _
    rw [firstHit_cons]
    cases hit x w <;> rfl
theorem backL_range (I : List Nat) (l : List Pe) : backL I l = (List.range I.length).map fun w => (firstHit l w).getD (I.getD w 0) := by
  apply List.ext_getElem
  · rw [backL_len]; simp
  · intro i h1 h2
    have h3 : i < I.length := by rw [backL_len] at h1; exact h1
    have := backL_at I i h3 l
    rw [List.getD_eq_getElem?_getD, List.getElem?_eq_getElem h1] at this
    simp only [List.getElem_map, List.getElem_range]
    exact this
theorem firstHit_snoc : ∀ (l : List Pe) (x : Pe) (w : Nat), firstHit l w = none → firstHit (l ++ [x]) w = hit x w
  | [], x, w, _ => by rw [List.nil_append, firstHit_cons]; cases hit x w <;> rfl
  | y :: l, x, w, h => by
    rw [List.cons_append]
    rw [firstHit_cons] at h ⊢
    cases hy : hit y w with
    | none => rw [hy] at h; simp only [] at h ⊢; exact firstHit_snoc l x w h
    | some z => rw [hy] at h; simp at h
theorem firstHit_take {l : List Pe} {w k : Nat} (hk : k < l.length) (h : firstHit (l.take k) w = none) : firstHit (l.take (k + 1)) w = hit (l.getD k default) w := by
  rw [List.take_succ_eq_append_getElem hk, firstHit_snoc _ _ _ h, List.getD_eq_getElem?_getD, List.getElem?_eq_getElem hk]
  rfl
theorem firstHit_stop {l : List Pe} {w k : Nat} {y : Nat} (h : firstHit (l.take k) w = some y) : firstHit l w = some y := by
  have e : l = l.take k ++ l.drop k := (List.take_append_drop k l).symm
  rw [e]
  generalize l.take k = a at *
  generalize l.drop k = b at *
  clear e
  induction a with
  | nil => simp [firstHit] at h
  | cons x a ih =>
    rw [List.cons_append]
    rw [firstHit_cons] at h ⊢
    cases hx : hit x w with
    | none => rw [hx] at h; simp only [] at h ⊢; exact ih h
    | some z => rw [hx] at h; exact h
theorem hit_zero (a : Int) (os : List Nat) (w : Nat) : hit (a, os.take 0) w = none := by
  unfold hit
  rw [if_neg (by simp only [List.take_zero, List.length_nil]; omega)]
theorem hit_step {a : Int} {os : List Nat} {w k : Nat} (hk : k < os.length) : (a + (k : Int) = (w : Int) → hit (a, os.take (k + 1)) w = some (os.getD k 0)) ∧ (¬ a + (k : Int) = (w : Int) → hit (a, os.take (k + 1)) w = hit (a, os.take k) w) := by
  unfold hit
  simp only [List.length_take]
  rw [Nat.min_eq_left (by omega), Nat.min_eq_left (by omega)]
  refine ⟨fun h => ?_, fun h => ?_⟩
  · rw [if_pos (by omega), show ((w : Int) - a).toNat = k from by omega, List.getD_eq_getElem?_getD, List.getD_eq_getElem?_getD, List.getElem?_take_of_lt (by omega)]
  · by_cases h2 : a ≤ (w : Int) ∧ (w : Int) < a + (k : Int)
    · rw [if_pos (by omega), if_pos h2, List.getD_eq_getElem?_getD, List.getD_eq_getElem?_getD, List.getElem?_take_of_lt (by omega), List.getElem?_take_of_lt (by omega)]
    · rw [if_neg (by omega), if_neg h2]
/-- what is known of a word: its value, whether it was found -/
def Fnd (h : Option Nat) (x0 x : Nat) (b : Bool) : Prop := x = h.getD x0 ∧ b = h.isSome
set_option maxRecDepth 10000 in
set_option maxHeartbeats 2000000 in
theorem refBack_any (vI v : Value) (I : List Nat) (l : List Pe) (w : World) (hI : KL .u64 w vI I) (hIl : I.length ≤ 1000) (hlen : l.length ≤ 1000) (hL : EN w v l) (hnear : ∀ x ∈ l, Near x) :
    Calls Try.prog 21 #[vI, v] w fun e w' => ∃ v', e = .returned v' ∧ OwnU w' w.heap.size v' (backL I l) ∧ Below w.heap.size w w' := by
  have hRg := Lib.hid (backL_range I l)
  obtain ⟨n, hn⟩ : ∃ n, l.length = n := ⟨_, rfl⟩
  obtain ⟨nI, hnI⟩ : ∃ n, I.length = n := ⟨_, rfl⟩
  rw [hnI] at hRg
  obtain ⟨A, cap, rfl, hC⟩ := hL.form hn
  obtain ⟨AI, cI, rfl, hCI⟩ := hI.form hnI
  have hNr := Lib.hid (fun k (h : k < n) => show Near (l.getD k default) from hnear _ (by rw [List.getD_eq_getElem?_getD, List.getElem?_eq_getElem (by omega)]; exact List.getElem_mem _))
  have hT1 := Lib.hid (fun (k w : Nat) (h : k < n) (h2 : firstHit (l.take k) w = none) => firstHit_take (l := l) (by omega) h2)
  have hT2 := Lib.hid (fun (k w y : Nat) (h : firstHit (l.take k) w = some y) => firstHit_stop h)
  have hT3 := Lib.hid (fun (w : Nat) => show firstHit (l.take n) w = firstHit l w from by rw [List.take_of_length_le (by omega)])
  have hT0 := Lib.hid (fun (w : Nat) => show firstHit (l.take 0) w = none from rfl)
  replace hC := Lib.hid hC
  replace hCI := Lib.hid hCI
  have hn9 : n ≤ 1000 := by omega
  have hnI9 : nI ≤ 1000 := by omega
  clear hL hI hnear hlen hIl hn hnI
  go_enter Try.func21, Try.ntmps21
  go_wp2_with fail
  go_loopw [5, 6] (fun o i wr => ∃ (k : Nat) (J : List Nat) (Ao : Option Addr) (co : Nat), k ≤ nI ∧ i = .int .i64 k ∧ o = .slice Ao k co ∧ Hid (J.length = k) ∧ Hid (J = (List.range k).map fun w => (firstHit l w).getD (I.getD w 0)) ∧ OwnU wr w.heap.size (.slice Ao k co) J ∧ Below w.heap.size w wr) (fun _ i _ => nI + 1 - (intOf i).toNat)
  case atStart => exact ⟨0, [], none, 0, Nat.zero_le _, rfl, rfl, rfl, rfl, World.ownsRow_nil _ _ _ _, Below.refl _ _⟩
  case round =>
    obtain ⟨q, J, Ao, co, hq, rfl, rfl, hJl, hJ, hown, hB⟩ := hrel
    by_cases hqt : q < nI
    · obtain ⟨gI, oI, rfl, hcI, hgI, i0⟩ := hCI.out wr q hB hqt
      have hqt' : (q : Int) < (nI : Int) := by omega
      have hJn := Lib.hid (fun x (h : x = (firstHit l q).getD (I.getD q 0)) => show J ++ [x] = (List.range (q + 1)).map fun w => (firstHit l w).getD (I.getD w 0) from by rw [hJ.out, List.range_succ, List.map_append, List.map_singleton, h])
      generalize I.getD q 0 = x0 at *
      have hF0 : Hid (Fnd (firstHit (l.take 0) q) x0 x0 false) := by show _ ∧ _; rw [hT0.out]; exact ⟨rfl, rfl⟩

      go_wp2_with fail
      go_loopw [7, 8, 9] (fun xv fv i wq => ∃ (k x : Nat) (b : Bool), k ≤ n ∧ i = .int .i64 k ∧ xv = .int .u64 (x : Nat) ∧ fv = .bool b ∧ Hid (Fnd (firstHit (l.take k) q) x0 x b) ∧ OwnU wq w.heap.size (.slice Ao q co) J ∧ Below w.heap.size w wq) (fun _ _ i _ => n + 1 - (intOf i).toNat)
      case atStart => exact ⟨0, x0, false, Nat.zero_le _, rfl, rfl, rfl, hF0, hown, hB⟩
      case round =>
        clear hF0 hown hB
        obtain ⟨k, x, b, hk, rfl, rfl, rfl, hFd, hownq, hBq⟩ := hrel
        have hlq := hJl.out
        cases b with
        | true =>
          have hx : x = (firstHit l q).getD x0 := by
            obtain ⟨h1, h2⟩ := hFd.out
            obtain ⟨y, hy⟩ := Option.isSome_iff_exists.1 h2.symm
            rw [h1, hy, hT2.out k q y hy]
          by_cases hkt : k < n
          · have hkt' : (k : Int) < (n : Int) := by omega
            have hJ2 := Lib.hid (hJn.out _ hx)
            obtain ⟨v', w1, hrun, ho, hb1⟩ := appW (hownq.keep ((Below.refl _ _).alloc (Nat.le_refl _) (.cells #[.int .u64 (x : Nat)] (22 : Nat)))) (KL.one wr x 22) (by have := hBq.size; simp; omega) (by rw [hJl.out]; omega) (by simp)
            have hJ3 := Lib.hid (show (J ++ [x]).length = q + 1 from by rw [List.length_append, hJl.out]; rfl)
            have hB1 := (hBq.alloc hBq.size (.cells #[.int .u64 (x : Nat)] (22 : Nat))).trans hb1
            obtain ⟨A9, c9, hv9, _⟩ := ho.form
            rw [hJ3.out] at hv9
            subst hv9
            clear hb1 hownq hBq hx
            go_wp2_with (at_builtin; refine wpList_append_run rfl _ _ 23 rfl _ _ _ rfl rfl hrun ?_)
            exact ⟨⟨q + 1, _, A9, c9, by omega, by go_num, rfl, hJ3, hJ2, ho, hB1⟩, by simp [intOf]; omega⟩
          · obtain rfl : k = n := by omega
            have hJ2 := Lib.hid (hJn.out _ hx)
            obtain ⟨v', w1, hrun, ho, hb1⟩ := appW (hownq.keep ((Below.refl _ _).alloc (Nat.le_refl _) (.cells #[.int .u64 (x : Nat)] (22 : Nat)))) (KL.one wr x 22) (by have := hBq.size; simp; omega) (by rw [hJl.out]; omega) (by simp)
            have hJ3 := Lib.hid (show (J ++ [x]).length = q + 1 from by rw [List.length_append, hJl.out]; rfl)
            have hB1 := (hBq.alloc hBq.size (.cells #[.int .u64 (x : Nat)] (22 : Nat))).trans hb1
            obtain ⟨A9, c9, hv9, _⟩ := ho.form
            rw [hJ3.out] at hv9
            subst hv9
            clear hb1 hownq hBq hx
            go_wp2_with (at_builtin; refine wpList_append_run rfl _ _ 23 rfl _ _ _ rfl rfl hrun ?_)
            exact ⟨⟨q + 1, _, A9, c9, by omega, by go_num, rfl, hJ3, hJ2, ho, hB1⟩, by simp [intOf]; omega⟩
        | false =>
          by_cases hkt : k < n
          · have hkt' : (k : Int) < (n : Int) := by omega
            have hno : firstHit (l.take k) q = none := by
              obtain ⟨_, h2⟩ := hFd.out
              cases h : firstHit (l.take k) q with
              | none => rfl
              | some y => rw [h] at h2; simp at h2
            have hxx : x = x0 := by
              obtain ⟨h1, _⟩ := hFd.out
              rw [h1, hno]
              rfl
            subst hxx
            have hT4 := Lib.hid (hT1.out k q hkt hno)
            have hCk := Lib.hid (fun w1 (hb : Below w.heap.size w w1) => hC.out w1 k hb hkt)
            obtain ⟨b1, b2, b3⟩ := hNr.out k hkt
            generalize l.getD k default = e at *
            obtain ⟨a, os⟩ := e
            simp only [] at b1 b2 b3
            obtain ⟨m, hm⟩ : ∃ m, os.length = m := ⟨_, rfl⟩
            rw [hm] at b3
            have hSt := Lib.hid (fun j (h : j < m) => hit_step (a := a) (os := os) (w := q) (k := j) (by omega))
            have hfull := Lib.hid (show os.take m = os from by rw [← hm, List.take_length])
            have hG0 : Hid (Fnd (hit (a, os.take 0) q) x x false) := by show _ ∧ _; rw [hit_zero]; exact ⟨rfl, rfl⟩
            replace hm := Lib.hid hm
            clear hFd hno
            obtain ⟨g, off, A2, c2, rfl, hcap, hg, c0, c1, hko⟩ := hCk.out _ hBq
            simp only [] at c0 c1 hko
            rw [hm.out] at c1 hko
            go_wp2_with fail
            go_loopw [7, 8, 10] (fun xv fv i wq => ∃ (j y : Nat) (b : Bool), j ≤ m ∧ i = .int .i64 j ∧ xv = .int .u64 (y : Nat) ∧ fv = .bool b ∧ Hid (Fnd (hit (a, os.take j) q) x y b) ∧ OwnU wq w.heap.size (.slice Ao q co) J ∧ Below w.heap.size w wq) (fun _ _ i _ => m + 1 - (intOf i).toNat)
            case atStart => exact ⟨0, x, false, Nat.zero_le _, rfl, rfl, rfl, hG0, hownq, hBq⟩
            case round =>
              clear hG0 hownq hBq c0 c1 hko
              obtain ⟨j, y, b, hj, rfl, rfl, rfl, hFd, hownq, hBq⟩ := hrel
              obtain ⟨g2, off2, A2, c2, eA, hcap2, hg2, c0, c1, hko⟩ := hCk.out _ hBq
              cases eA
              (try simp only [] at c0 c1 hko)
              rw [hm.out] at c1 hko
              by_cases hjt : j < m
              · have hjt' : (j : Int) < (m : Int) := by omega
                obtain ⟨A3, c3, e3, h3⟩ := hko.form hm.out
                cases e3
                obtain ⟨g3, o3, rfl, hc3, hg3, d0⟩ := h3 _ j (Below.refl _ _) hjt
                have hs := hSt.out j hjt
                generalize os.getD j 0 = z at *
                have hw1 : IntKind.i64.wrap (a + (j : Int)) = a + (j : Int) := by rw [IntKind.wrap_i64]; omega
                by_cases e : a + (j : Int) = (q : Int)
                · have hN : Hid (Fnd (hit (a, os.take (j + 1)) q) x z true) := by show _ ∧ _; rw [hs.1 e]; exact ⟨rfl, rfl⟩
                  have e1 : (a + (j : Int) == (q : Int)) = true := by rw [beq_iff_eq]; exact e
                  clear hs hFd h3 hko
                  go_wp2_with fail
                  go_roundw
                  case rel => exact ⟨j + 1, z, true, by omega, by go_num, rfl, rfl, hN, hownq, hBq⟩
                  case measure => simp [intOf]; omega
                · have hN : Hid (Fnd (hit (a, os.take (j + 1)) q) x y b) := by show Fnd _ _ _ _; rw [hs.2 e]; exact hFd.out
                  have e1 : (a + (j : Int) == (q : Int)) = false := by rw [beq_eq_false_iff_ne]; exact e
                  clear hs hFd h3 hko e
                  go_wp2_with fail
                  go_roundw
                  case rel => exact ⟨j + 1, y, b, by omega, by go_num, rfl, rfl, hN, hownq, hBq⟩
                  case measure => simp [intOf]; omega
              · obtain rfl : j = m := by omega
                have hN : Hid (Fnd (firstHit (l.take (k + 1)) q) x y b) := by
                  show Fnd _ _ _ _
                  rw [hT4.out]
                  have := hFd.out
                  rwa [hfull.out] at this
                clear hFd
                go_wp2_with fail
                exact ⟨⟨k + 1, y, b, by omega, by go_num, rfl, rfl, hN, hownq, hBq⟩, by simp [intOf]; omega⟩
          · obtain rfl : k = n := by omega
            have hx : x = (firstHit l q).getD x0 := by
              rw [← hT3.out]
              exact hFd.out.1
            have hJ2 := Lib.hid (hJn.out _ hx)
            obtain ⟨v', w1, hrun, ho, hb1⟩ := appW (hownq.keep ((Below.refl _ _).alloc (Nat.le_refl _) (.cells #[.int .u64 (x : Nat)] (22 : Nat)))) (KL.one wr x 22) (by have := hBq.size; simp; omega) (by rw [hJl.out]; omega) (by simp)
            have hJ3 := Lib.hid (show (J ++ [x]).length = q + 1 from by rw [List.length_append, hJl.out]; rfl)
            have hB1 := (hBq.alloc hBq.size (.cells #[.int .u64 (x : Nat)] (22 : Nat))).trans hb1
            obtain ⟨A9, c9, hv9, _⟩ := ho.form
            rw [hJ3.out] at hv9
            subst hv9
            clear hb1 hownq hBq hx
            go_wp2_with (at_builtin; refine wpList_append_run rfl _ _ 23 rfl _ _ _ rfl rfl hrun ?_)
            exact ⟨⟨q + 1, _, A9, c9, by omega, by go_num, rfl, hJ3, hJ2, ho, hB1⟩, by simp [intOf]; omega⟩
    · obtain rfl : q = nI := by omega
      have hfin := Lib.hid (show J = backL I l from by rw [hRg.out, hJ.out])
      go_wp2_with fail
      go_ret
      exact ⟨_, rfl, by rw [← hfin.out]; exact hown, hB⟩
end Go.Proofs.Ytkmfncnfpneekaa
