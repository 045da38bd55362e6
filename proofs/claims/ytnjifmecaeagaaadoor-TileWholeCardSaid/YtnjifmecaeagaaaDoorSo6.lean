/-
  The document's Logs; lists of places held against each other.
-/
import Derived.Test.YtnjifmecaeagaaaDoorSo5
set_option linter.unusedVariables false
set_option linter.unusedSimpArgs false
namespace Go.Proofs.YtnjifmecaeagaaaDoor
open Go.RowKit Go.ChangeShapes Go.WideShapes Go.Deep
set_option maxRecDepth 10000 in
set_option maxHeartbeats 2000000 in
theorem refLogs_any (v : Value) (t : List Nat) (lane : Int) (w : World) (hw : Lw w) (hv : KL .u64 w v t) (hW : WL t) (hl : t.length ≤ 1000) :
    Calls Tryd.prog 29 #[v, .int .i64 lane] w fun e W' => ∃ v', e = .returned v' ∧ IKO W' w.heap.size v' (logsT t lane) ∧ Below w.heap.size w W' := by
  have hCh := refChunks_any v t w hw hv hW (by omega)
  obtain ⟨R, hR⟩ : ∃ R, logsT t lane = R := ⟨_, rfl⟩
  rw [hR]
  obtain ⟨nn, hnn⟩ : ∃ n, t.length = n := ⟨_, rfl⟩
  obtain ⟨A, cap, rfl, _⟩ := hv.form hnn
  go_enter Tryd.func29, Tryd.ntmps29
  go_wp2_with fail
  refine hCh.mono ?_
  rintro e w1 ⟨hP, hb1⟩
  obtain ⟨v1, bb, t1, rfl, hk1, hok1, _, hl3, q1, q2⟩ := hP.some
  have hRt := Lib.hid (show R = logsR t1 lane 8 from by rw [← hR]; exact logsT_some lane q1 q2)
  obtain ⟨n, hn⟩ : ∃ n, t1.length = n := ⟨_, rfl⟩
  have hn9 : n ≤ 1000 := by omega
  obtain ⟨A1, c1, rfl, hC⟩ := CKL.form hk1 hn
  replace hC := Lib.hid hC
  have hR0 := Lib.hid (show logsR t1 lane 0 = [] from rfl)
  have hRs := Lib.hid (fun m => (show logsR t1 lane (m + 1) = logsR t1 lane m ++ logsN t1 lane m n from by rw [logsR_succ, hn]))
  have hRl := Lib.hid (fun m => (show (logsR t1 lane m).length ≤ m * n from by rw [← hn]; exact logsR_len t1 lane m))
  have hbs1 := hb1.size
  have hbw := Lib.hid hb1
  replace hn := Lib.hid hn
  clear hCh hP hv hW hR hnn hk1 hok1 q1 q2 hl3 hl hb1
  go_wp2_with fail
  go_loopw [8, 7] (fun i vr wr => ∃ (m : Nat) (l : List Nat), m ≤ 8 ∧ i = .int .i64 m ∧ l = logsR t1 lane m ∧ IKO wr w1.heap.size vr l ∧ Below w1.heap.size w1 wr) (fun i _ _ => 9 - (intOf i).toNat)
  case atStart => exact ⟨0, _, Nat.zero_le _, rfl, rfl, by rw [hR0.out]; exact OwnE.nil _ _ _ _ _, Below.refl _ _⟩
  case round =>
    obtain ⟨m, l, hm, rfl, rfl, hown0, hB0⟩ := hrel
    by_cases hlt0 : m < 8
    · have hlt0' : (m : Int) < 8 := by omega
      have hRl' := hRl.out m
      have hm8 : m * n ≤ 7 * 1000 := Nat.mul_le_mul (by omega) hn9
      go_wp2_with fail
      go_loopw [9, 7] (fun i vr wr => ∃ (j : Nat) (l : List Nat), j ≤ n ∧ i = .int .i64 j ∧ l = logsR t1 lane m ++ logsN t1 lane m j ∧ IKO wr w1.heap.size vr l ∧ Below w1.heap.size w1 wr) (fun i _ _ => n + 1 - (intOf i).toNat)
      case atStart => exact ⟨0, _, Nat.zero_le _, rfl, rfl, by rw [show logsN t1 lane m 0 = [] from rfl, List.append_nil]; exact hown0, hB0⟩
      case round =>
        obtain ⟨j, l, hj, rfl, rfl, hown, hB⟩ := hrel
        by_cases hlt : j < n
        · obtain ⟨g, off, rfl, hcap, hg, hg2, c0, c1, c2, c3, c4⟩ := hC.out wr j hB hlt
          have hlt' : (j : Int) < (n : Int) := by omega
          have hsc := logsN_succ t1 lane m j
          have hlF := logsN_len t1 lane m j
          have hisL : isLog t1 lane m j = (decide (kN (t1.getD j 0) = 4) && decide ((lnN (t1.getD j 0) : Int) = lane) && decide (mN (t1.getD j 0) = m)) := rfl
          generalize t1.getD j 0 = x at *
          obtain ⟨D, hD⟩ : ∃ D, logsR t1 lane m ++ logsN t1 lane m j = D := ⟨_, rfl⟩
          have hDl : D.length ≤ 8000 := by rw [← hD, List.length_append]; omega
          rw [hD] at hown
          obtain ⟨L, hL⟩ : ∃ L, D.length = L := ⟨_, rfl⟩
          obtain ⟨Av, cv, rfl⟩ := intForm hown hL
          obtain ⟨ik, hik⟩ : ∃ z : Int, ((kN x : Nat) : Int) = z := ⟨_, rfl⟩
          obtain ⟨il, hil⟩ : ∃ z : Int, ((lnN x : Nat) : Int) = z := ⟨_, rfl⟩
          obtain ⟨im, him⟩ : ∃ z : Int, ((mN x : Nat) : Int) = z := ⟨_, rfl⟩
          rw [hik] at c0
          rw [hil] at c2 hisL
          rw [him] at c3
          have hno : ¬ (kN x = 4 ∧ il = lane ∧ mN x = m) → Hid (logsR t1 lane m ++ logsN t1 lane m (j + 1) = D) := fun h => by
            show _ = _
            rw [hsc, hisL, ← hD]
            have : (decide (kN x = 4) && decide (il = lane) && decide (mN x = m)) = false := by
              rw [Bool.eq_false_iff]; intro q; simp only [Bool.and_eq_true, decide_eq_true_eq] at q; exact h ⟨q.1.1, q.1.2, q.2⟩
            rw [this]; simp
          by_cases k4 : ik = 4
          · subst k4
            by_cases kl : il = lane
            · subst kl
              by_cases km : mN x = m
              · have km' : im = (m : Int) := by omega
                rw [km'] at c3
                have hst := Lib.hid (show logsR t1 il m ++ logsN t1 il m (j + 1) = D ++ [j] from by rw [hsc, hisL, decide_eq_true (show kN x = 4 by omega), decide_eq_true rfl, decide_eq_true km, ← hD, List.append_assoc]; rfl)
                obtain ⟨v', w4, hrun, ho, hb⟩ := appI (x := j) hown (by have := hB.size; omega) (by omega)
                have hB6 := hB.trans (hb.mono (Nat.le_refl _))
                replace hL := Lib.hid hL
                replace hD := Lib.hid hD
                clear hsc hlF hisL hik hil him km km' hno hown hb hDl hRl'
                go_wp2_with (at_builtin; refine wpList_append_run rfl _ _ 40 rfl _ _ _ rfl rfl hrun ?_)
                go_roundw
                case rel => exact ⟨j + 1, _, by omega, by go_num, rfl, by rw [hst.out]; exact ho, hB6⟩
                case measure => first | (simp [intOf]; done) | (simp [intOf]; omega)
              · have km' : ¬ im = (m : Int) := by omega
                have km2 : (im == (m : Int)) = false := by rw [beq_eq_false_iff_ne]; exact km'
                have hst := hno (fun q => km q.2.2)
                replace hL := Lib.hid hL
                replace hD := Lib.hid hD
                clear hsc hlF hisL hik hil him km hno hDl hRl'
                go_wp2_with fail
                go_roundw
                case rel => exact ⟨j + 1, _, by omega, by go_num, rfl, by rw [hst.out]; exact hown, hB⟩
                case measure => first | (simp [intOf]; done) | (simp [intOf]; omega)
            · have hst := hno (fun q => kl q.2.1)
              replace hL := Lib.hid hL
              replace hD := Lib.hid hD
              clear hsc hlF hisL hik hil him hno hDl hRl'
              go_wp2_with fail
              go_roundw
              case rel => exact ⟨j + 1, _, by omega, by go_num, rfl, by rw [hst.out]; exact hown, hB⟩
              case measure => first | (simp [intOf]; done) | (simp [intOf]; omega)
          · have hst := hno (fun q => k4 (by have := q.1; omega))
            replace hL := Lib.hid hL
            replace hD := Lib.hid hD
            clear hsc hlF hisL hik hil him hno hDl hRl'
            go_wp2_with fail
            go_roundw
            case rel => exact ⟨j + 1, _, by omega, by go_num, rfl, by rw [hst.out]; exact hown, hB⟩
            case measure => first | (simp [intOf]; done) | (simp [intOf]; omega)
        · obtain rfl : j = n := by omega
          have hst := Lib.hid (hRs.out m).symm
          go_wp2_with fail
          go_roundw
          case rel => exact ⟨m + 1, _, by omega, by go_num, rfl, by rw [← hst.out]; exact hown, hB⟩
          case measure => first | (simp [intOf]; done) | (simp [intOf]; omega)
    · obtain rfl : m = 8 := by omega
      have hfin := Lib.hid (show IKO wr w.heap.size u7 R ∧ Below w.heap.size w wr from ⟨by rw [hRt.out]; exact hown0.mono hbs1, hbw.out.trans (hB0.mono hbs1)⟩)
      clear hown0 hB0
      go_wp2_with fail
      go_ret
      exact ⟨_, rfl, hfin.out⟩
set_option maxHeartbeats 1000000 in
theorem ints_any (v u : Value) (l m : List Nat) (w : World) (hlen : l.length ≤ 1000000) (hv : KL .i64 w v l) (hu : KL .i64 w u m) :
    Calls Tryd.prog 27 #[v, u] w fun e w' => e = .returned (.bool (decide (l = m))) ∧ Below w.heap.size w w' := by
  obtain ⟨n, hn⟩ : ∃ n, l.length = n := ⟨_, rfl⟩
  obtain ⟨n2, hn2⟩ : ∃ n, m.length = n := ⟨_, rfl⟩
  obtain ⟨A, cap, rfl, hC⟩ := hv.form hn
  obtain ⟨A2, cap2, rfl, hC2⟩ := hu.form hn2
  have hne := Lib.hid (fun (h : ¬ l = m) => show decide (l = m) = false from decide_eq_false h)
  by_cases hnn : n = n2
  · subst hnn
    have hyes := Lib.hid (fun (h : ∀ j, j < n → l.getD j 0 = m.getD j 0) => show decide (l = m) = true from by
      refine decide_eq_true ?_
      apply List.ext_getElem (by omega)
      intro i h1 h2
      have := h i (by omega)
      rwa [List.getD_eq_getElem?_getD, List.getD_eq_getElem?_getD, List.getElem?_eq_getElem h1, List.getElem?_eq_getElem h2] at this)
    replace hC := Lib.hid hC
    replace hC2 := Lib.hid hC2
    have hlen' : n ≤ 1000000 := by omega
    clear hlen
    replace hn := Lib.hid hn
    replace hn2 := Lib.hid hn2
    go_enter Tryd.func27, Tryd.ntmps27
    go_wp2_with fail
    go_loopw [5] (fun i wr => ∃ k : Nat, k ≤ n ∧ i = .int .i64 k ∧ Hid (∀ j, j < k → l.getD j 0 = m.getD j 0) ∧ Below w.heap.size w wr) (fun i _ => n + 1 - (intOf i).toNat)
    case atStart => exact ⟨0, Nat.zero_le _, rfl, (fun j hj => by omega), Below.refl _ _⟩
    case round =>
      obtain ⟨k, hk, rfl, hF, hB⟩ := hrel
      by_cases hlt : k < n
      · obtain ⟨g, off, rfl, hcap, hg, c0⟩ := hC.out wr k hB hlt
        obtain ⟨g2, off2, rfl, hcap2, hg2, d0⟩ := hC2.out wr k hB hlt
        have hlt' : (k : Int) < (n : Int) := by omega
        have hF2 := Lib.hid (fun (h : l.getD k 0 = m.getD k 0) j (hj : j < k + 1) => show l.getD j 0 = m.getD j 0 from by
          by_cases e : j = k
          · subst e; exact h
          · exact hF.out j (by omega))
        have hF3 := Lib.hid (fun (h : ¬ l.getD k 0 = m.getD k 0) => show decide (l = m) = false from decide_eq_false (fun q => h (by rw [q])))
        generalize l.getD k 0 = a at *
        generalize m.getD k 0 = c at *
        by_cases hac : a = c
        · subst hac
          have hR := Lib.hid (hF2.out rfl)
          go_wp2_with fail
          go_region
          all_goals (try go_wp2_with fail)
          go_roundw
          case rel => exact ⟨k + 1, by omega, by go_num, hR, hB.drew⟩
          case measure => simp [intOf]; omega
        · have hR := Lib.hid (hF3.out hac)
          have f1 : ((a : Int) == (c : Int)) = false := by rw [beq_eq_false_iff_ne]; omega
          have f2 : ((a : Int) != (c : Int)) = true := by rw [bne_iff_ne]; omega
          go_wp2_with fail
          go_region
          all_goals (try go_wp2_with fail)
          all_goals
            go_ret
            exact ⟨by rw [hR.out]; rfl, hB.drew⟩
      · obtain rfl : k = n := by omega
        have hR := Lib.hid (hyes.out hF.out)
        go_wp2_with fail
        go_ret
        exact ⟨by rw [hR.out]; rfl, hB⟩
  · have hR := Lib.hid (hne.out (fun h => hnn (by rw [← hn, ← hn2, h])))
    have f1 : ((n : Int) != (n2 : Int)) = true := by rw [bne_iff_ne]; omega
    clear hn hn2 hv hu hC hC2 hnn
    go_enter Tryd.func27, Tryd.ntmps27
    go_wp2_with fail
    go_ret
    exact ⟨by rw [hR.out]; rfl, Below.refl _ _⟩
theorem IKO.kl {w : World} {base : Nat} {v : Value} {l : List Nat} (h : IKO w base v l) : KL .i64 w v l := by
  obtain ⟨A, cap, hv, hc⟩ := OwnE.el eI_len h
  refine ⟨A, cap, hv, fun hl => ?_⟩
  obtain ⟨g, off, hA, hg, hcp, hi⟩ := hc hl
  refine ⟨g, off, hA, hg, hcp, fun i hil => ?_⟩
  have := hi i hil 0 (by decide)
  simpa [eI] using this
end Go.Proofs.YtnjifmecaeagaaaDoor
