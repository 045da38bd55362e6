/-
  The document's rows of chunks that may be had.
-/
import Derived.Test.YtnjifmecaeagaaaDoorTi8
set_option linter.unusedVariables false
set_option linter.unusedSimpArgs false
namespace Go.Proofs.YtnjifmecaeagaaaDoor
open Go.RowKit Go.ChangeShapes Go.WideShapes Go.Deep
/-- no row ends at a place -/
def Ends (f : Nat → Bool) (i : Nat) : Prop := ∀ q a m, (rowsL f i).length = q + 1 → (rowsL f i).getD q default = (a, m) → ¬ a + m = i
theorem Ends.zero (f : Nat → Bool) : Ends f 0 := fun q a m h => by simp [rowsL] at h
theorem Ends.next {f : Nat → Bool} {k : Nat} (h : f k = false) : Ends f (k + 1) := fun q a m h1 h2 => by
  rw [rowsL_no h] at h1 h2
  have := rowsL_bd h1 h2
  omega
theorem rows_run {f : Nat → Bool} {i : Nat} (h : Ends f i) : ∀ d, (∀ q, i ≤ q → q < i + d → f q = true) → rowsL f (i + d) = rowsL f i ++ (if 0 < d then [(i, d)] else [])
  | 0, _ => by simp
  | d + 1, hf => by
    have ih := rows_run h d (fun q q1 q2 => hf q q1 (by omega))
    have hk := hf (i + d) (by omega) (by omega)
    rw [if_pos (by omega)]
    by_cases h0 : d = 0
    · subst h0
      rw [show i + (0 + 1) = i + 1 from rfl]
      cases hl : (rowsL f i).length with
      | zero => exact rowsL_first hk hl
      | succ q =>
        obtain ⟨⟨a, m⟩, hx⟩ : ∃ s, (rowsL f i).getD q default = s := ⟨_, rfl⟩
        exact rowsL_next hk hl hx (h q a m hl hx)
    · rw [if_pos (by omega)] at ih
      have hl : (rowsL f (i + d)).length = (rowsL f i).length + 1 := by rw [ih, List.length_append]; rfl
      have hx : (rowsL f (i + d)).getD (rowsL f i).length default = (i, d) := by rw [ih]; simp [List.getD_eq_getElem?_getD]
      have := rowsL_more hk hl hx rfl
      rw [show i + (d + 1) = i + d + 1 from rfl, this, ih]
      simp
set_option maxHeartbeats 400000 in
theorem refMay_any (x : Nat) (w : World) : Calls Tryd.prog 63 #[vC x] w fun e w' => e = .returned (.bool (mayN x)) ∧ Below w.heap.size w w' := by
  have hp := parts_bd x
  unfold vC mayN
  have hB := (Below.refl w.heap.size w).alloc (Nat.le_refl _) (.cells #[.int .i64 (kN x : Nat), .int .i64 (cN x : Nat), .int .i64 (lnN x : Nat), .int .i64 (mN x : Nat), .int .u64 (bN x : Nat)] 29)
  generalize kN x = k at *
  generalize cN x = c at *
  generalize lnN x = l at *
  generalize mN x = m at *
  generalize bN x = b at *
  by_cases k0 : k = 0
  · subst k0
    go_enter Tryd.func63, Tryd.ntmps63
    go_wp2_with fail
    go_ret
    exact ⟨rfl, hB⟩
  · have k0' : ¬ (k : Int) = 0 := by omega
    by_cases k1 : k = 1
    · subst k1
      by_cases b0 : b = 0
      · subst b0
        go_enter Tryd.func63, Tryd.ntmps63
        go_wp2_with fail
        go_ret
        exact ⟨rfl, hB⟩
      · have b0' : ¬ (b : Int) = 0 := by omega
        have hd : decide (1 = 1 ∧ b = 0) = false := decide_eq_false (fun h => b0 h.2)
        rw [hd]
        clear hd
        go_enter Tryd.func63, Tryd.ntmps63
        go_wp2_with fail
        go_ret
        exact ⟨by first | rfl | simp [b0], hB⟩
    · have k1' : ¬ (k : Int) = 1 := by omega
      have hd : (decide (k = 0) || decide (k = 1 ∧ b = 0)) = false := by rw [decide_eq_false k0, decide_eq_false (fun h => k1 h.1)]; rfl
      rw [hd]
      clear hd
      go_enter Tryd.func63, Tryd.ntmps63
      go_wp2_with fail
      go_ret
      exact ⟨by first | rfl | simp [k0, k1], hB⟩
set_option maxRecDepth 10000 in
set_option maxHeartbeats 2000000 in
theorem refRows_any (v : Value) (t : List Nat) (w : World) (hw : Lw w) (hv : KL .u64 w v t) (hW : WL t) (hl : t.length ≤ 10000) :
    Calls Tryd.prog 26 #[v] w fun e W' => ∃ v', e = .returned v' ∧ PKO W' w.heap.size v' (rowsT t) ∧ Below w.heap.size w W' := by
  have hCh := refChunks_any v t w hw hv hW (by omega)
  obtain ⟨R, hR⟩ : ∃ R, rowsT t = R := ⟨_, rfl⟩
  rw [hR]
  obtain ⟨nn, hnn⟩ : ∃ n, t.length = n := ⟨_, rfl⟩
  obtain ⟨A, cap, rfl, _⟩ := hv.form hnn
  go_enter Tryd.func26, Tryd.ntmps26
  go_wp2_with fail
  refine hCh.mono ?_
  rintro e w1 ⟨hP, hb1⟩
  obtain ⟨v1, bb, t1, rfl, hk1, hok1, _, hl1, q1, q2⟩ := hP.some
  obtain ⟨n, hn⟩ : ∃ n, t1.length = n := ⟨_, rfl⟩
  have hRt : R = rowsL (fT t1) n := by rw [← hR, ← hn]; exact rowsT_some q1 q2
  obtain ⟨A1, c1, rfl, hC⟩ := CKL.form hk1 hn
  replace hRt := Lib.hid hRt
  replace hC := Lib.hid hC
  have hn9 : n ≤ 10000 := by omega
  have hf0 := Lib.hid (fun k => show fT t1 k = mayN (t1.getD k 0) from rfl)
  have hbs1 := hb1.size
  have hbw := Lib.hid hb1
  generalize fT t1 = f at *
  clear hCh hP hv hW hR hnn hk1 hok1 q1 q2 hl1 hl hb1
  replace hn := Lib.hid hn
  go_wp2_with fail
  go_loopw [6, 5] (fun i vr wr => ∃ (j : Nat) (l : List (Nat × Nat)), j ≤ n + 1 ∧ i = .int .i64 j ∧ Hid (l = rowsL f (min j n)) ∧ PKO wr w1.heap.size vr l ∧ Below w1.heap.size w1 wr ∧ Hid (j ≤ n → Ends f j)) (fun i _ _ => n + 2 - (intOf i).toNat)
  case atStart => exact ⟨0, _, Nat.zero_le _, rfl, (show _ = _ from by rw [Nat.min_eq_left (Nat.zero_le _)]; rfl), OwnE.nil _ _ _ _ _, Below.refl _ _, fun _ => Ends.zero f⟩
  case round =>
    obtain ⟨i, l, hi, rfl, hl, hown0, hB0, hE⟩ := hrel
    by_cases hlt0 : i < n
    · have hlt0' : (i : Int) < (n : Int) := by omega
      have hli : Hid (l = rowsL f i) := by show _ = _; rw [hl.out, Nat.min_eq_left (by omega)]
      have hll := rowsL_len f i
      rw [← hli.out] at hll
      go_wp2_with fail
      go_loopw [7] (fun u wr => ∃ k : Nat, i ≤ k ∧ k ≤ n ∧ u = .int .i64 k ∧ Hid (∀ q, i ≤ q → q < k → f q = true) ∧ PKO wr w1.heap.size u5 l ∧ Below w1.heap.size w1 wr) (fun u _ => n + 1 - (intOf u).toNat)
      case atStart => exact ⟨i, Nat.le_refl _, by omega, rfl, fun q q1 q2 => by omega, hown0, hB0⟩
      case round =>
        obtain ⟨k, hik, hkn, rfl, hF, hown, hB⟩ := hrel
        have hend : (k = n ∨ f k = false) → Hid (rowsL f (min (k + 1) n) = l ++ (if 0 < k - i then [(i, k - i)] else [])) := fun h => by
          have hr := rows_run (hE.out (by omega)) (k - i) (fun q q1 q2 => hF.out q q1 (by omega))
          rw [show i + (k - i) = k by omega, ← hli.out] at hr
          show _ = _
          rw [← hr]
          rcases h with h | h
          · subst h; rw [Nat.min_eq_right (by omega)]
          · by_cases q : k = n
            · rw [q, Nat.min_eq_right (by omega)]
            · rw [Nat.min_eq_left (by omega), rowsL_no h]
        have hend2 : (k = n ∨ f k = false) → Hid (k + 1 ≤ n → Ends f (k + 1)) := fun h hk => by
          rcases h with h | h
          · omega
          · exact Ends.next h
        obtain ⟨L, hL⟩ : ∃ L, l.length = L := ⟨_, rfl⟩
        have hform : ∃ A c, u5 = .slice A L c := by
          rcases hown.2 with ⟨h, h2⟩ | ⟨g', cap', cur, h, _⟩
          · exact ⟨none, 0, by rw [h, ← hL, h2]⟩
          · exact ⟨_, _, by rw [h, hL]⟩
        obtain ⟨Av, cv, rfl⟩ := hform
        by_cases hlt : k < n
        · obtain ⟨g, off, rfl, hcap, hg, hg2, c0, c1, c2, c3, c4⟩ := hC.out wr k hB hlt
          have hlt' : (k : Int) < (n : Int) := by omega
          have hMy := Lib.hid (fun w => refMay_any (t1.getD k 0) w)
          have hfk := hf0.out k
          rw [← hfk] at hMy
          clear hfk
          generalize t1.getD k 0 = x at *
          unfold vC at hMy
          cases hfk : f k with
          | true =>
            rw [hfk] at hMy
            have hF2 := Lib.hid (fun q (q1 : i ≤ q) (q2 : q < k + 1) => show f q = true from by
              by_cases e : q = k
              · rw [e]; exact hfk
              · exact hF.out q q1 (by omega))
            replace hfk := Lib.hid hfk
            replace hL := Lib.hid hL
            clear hend hend2 hF
            go_wp2_with fail
            refine (hMy.out _).mono ?_
            rintro e w5 ⟨rfl, hb⟩
            clear c0 c1 c2 c3 c4
            have hB2 := hB.trans (hb.mono hB.size)
            have ho2 := hown.keep hb
            clear hb hown hB
            go_wp2_with fail
            go_roundw
            case rel => exact ⟨k + 1, by omega, by omega, by go_num, hF2, ho2, hB2⟩
            case measure => first | (simp [intOf]; done) | (simp [intOf]; omega)
          | false =>
            rw [hfk] at hMy
            have hnew := hend (.inr hfk)
            have hne := hend2 (.inr hfk)
            replace hfk := Lib.hid hfk
            go_wp2_with fail
            refine (hMy.out _).mono ?_
            rintro e w5 ⟨rfl, hb⟩
            clear c0 c1 c2 c3 c4
            replace hown := hown.keep hb
            replace hB := hB.trans (hb.mono hB.size)
            clear hb
            obtain ⟨wr, rfl⟩ : ∃ w, w = w5 := ⟨_, rfl⟩
            by_cases hki : i < k
            · have hki' : (k : Int) > (i : Int) := by omega
              obtain ⟨v', w4, hrun, ho, hg, _, _⟩ := appE pT (hown.alloc (.cells #[.int .i64 (i : Nat), .int .i64 ((k - i : Nat) : Int)] (46 : Nat))) (eP_new wr i (k - i) (46 : Nat)) (by have := hB.size; rw [World.size_alloc]; omega) (by omega) (by simp)
              have hB4 := (hB.alloc hB.size (.cells #[.int .i64 (i : Nat), .int .i64 ((k - i : Nat) : Int)] (46 : Nat))).trans (grown_below hg (by have := hB.size; rw [World.size_alloc]; omega) (fun q hq => (hown.lt q hq).1))
              rw [if_pos (by omega)] at hnew
              have hki2 : (k : Int) - (i : Int) = ((k - i : Nat) : Int) := by omega
              replace hL := Lib.hid hL
              clear hown hg hend hend2
              go_wp2_with (at_builtin; refine wpList_append_run rfl _ _ 37 rfl _ _ _ rfl rfl hrun ?_)
              go_roundw
              case rel => exact ⟨k + 1, _, by omega, by go_num, hnew.out.symm, ho, hB4, hne⟩
              case measure => first | (simp [intOf]; done) | (simp [intOf]; omega)
            · have hki' : ¬ (k : Int) > (i : Int) := by omega
              rw [if_neg (by omega), List.append_nil] at hnew
              replace hL := Lib.hid hL
              clear hend hend2
              go_wp2_with fail
              go_roundw
              case rel => exact ⟨k + 1, _, by omega, by go_num, hnew.out.symm, hown, hB, hne⟩
              case measure => first | (simp [intOf]; done) | (simp [intOf]; omega)
        · obtain rfl : k = n := by omega
          have hnew := hend (.inl rfl)
          have hne := hend2 (.inl rfl)
          by_cases hki : i < k
          · have hki' : (k : Int) > (i : Int) := by omega
            obtain ⟨v', w4, hrun, ho, hg, _, _⟩ := appE pT (hown.alloc (.cells #[.int .i64 (i : Nat), .int .i64 ((k - i : Nat) : Int)] (46 : Nat))) (eP_new wr i (k - i) (46 : Nat)) (by have := hB.size; rw [World.size_alloc]; omega) (by omega) (by simp)
            have hB4 := (hB.alloc hB.size (.cells #[.int .i64 (i : Nat), .int .i64 ((k - i : Nat) : Int)] (46 : Nat))).trans (grown_below hg (by have := hB.size; rw [World.size_alloc]; omega) (fun q hq => (hown.lt q hq).1))
            rw [if_pos (by omega)] at hnew
            have hki2 : (k : Int) - (i : Int) = ((k - i : Nat) : Int) := by omega
            replace hL := Lib.hid hL
            clear hown hg hend hend2
            go_wp2_with (at_builtin; refine wpList_append_run rfl _ _ 37 rfl _ _ _ rfl rfl hrun ?_)
            go_roundw
            case rel => exact ⟨k + 1, _, by omega, by go_num, hnew.out.symm, ho, hB4, hne⟩
            case measure => first | (simp [intOf]; done) | (simp [intOf]; omega)
          · exact absurd hlt0 hki
    · have hlt0' : ¬ (i : Int) < (n : Int) := by omega
      have hfin := Lib.hid (show PKO wr w.heap.size u5 R ∧ Below w.heap.size w wr from ⟨by
        rw [hRt.out]
        have e := hl.out
        rw [Nat.min_eq_right (by omega)] at e
        rw [← e]; exact hown0.mono hbs1, hbw.out.trans (hB0.mono hbs1)⟩)
      clear hown0 hB0 hl
      go_wp2_with fail
      go_ret
      exact ⟨_, rfl, hfin.out⟩
end Go.Proofs.YtnjifmecaeagaaaDoor
