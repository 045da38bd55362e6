/-
  Package tile: Right, and the document's tail and Right.
-/
import Derived.Test.YtnjifmecaeagaaaDoorTi2
set_option linter.unusedVariables false
set_option linter.unusedSimpArgs false
namespace Go.Proofs.YtnjifmecaeagaaaDoor
open Go.RowKit Go.ChangeShapes Go.WideShapes Go.Deep

theorem runT_all {t : List Nat} {n k : Nat} (hn : t.length = n) (hk : k ≤ n) (h : runT t k = none) : rightT t = false := by
  unfold rightT
  rw [runT_none h _ (by omega)]
  simp
set_option maxRecDepth 10000 in
set_option maxHeartbeats 2000000 in
theorem right_any2 (v : Value) (t : List Nat) (w : World) (hw : Lw w) (hv : KL .u64 w v t) (hW : WL t) (hl : t.length ≤ 100000) :
    Calls Tryd.prog 18 #[v] w fun e w' => e = .returned (.bool (rightT t)) ∧ Below w.heap.size w w' := by
  have hCh := chunks_any v t w hw hv hW hl
  obtain ⟨n, hn⟩ : ∃ n, t.length = n := ⟨_, rfl⟩
  have hn9 : n ≤ 100000 := by omega
  have hTa := Lib.hid (fun (h : t.all okN = true) => show rightT t = (runT t n == some 0) from by unfold rightT; rw [h, hn, Bool.true_and])
  have hTn := Lib.hid (fun k (hk : k ≤ n) => runT_all (t := t) hn hk)
  have hTs := Lib.hid (fun k => show runT t (k + 1) = (runT t k).bind (stepT (t.getD k 0)) from rfl)
  have hT0 := Lib.hid (show runT t 0 = some 0 from rfl)
  have hTf := Lib.hid (fun (h : t.all okN = false) => show rightT t = false from by unfold rightT; rw [h]; rfl)
  have hOk := Lib.hid (fun (h : t.all okN = true) k (hk : k < n) => okN_t (all_at h (k := k) (by omega)))
  generalize hR : rightT t = R at *
  replace hR := Lib.hid hR
  replace hn := Lib.hid hn
  obtain ⟨A, cap, rfl, _⟩ := hv.form hn.out
  clear hv hW hl hw
  go_enter Tryd.func18, Tryd.ntmps18
  go_wp2_with fail
  refine hCh.mono ?_
  rintro e w1 ⟨hP, hb1⟩
  rcases hP with ⟨hok, v1, rfl, ho1⟩ | ⟨hok, rfl⟩
  · obtain ⟨A1, c1, rfl, hC⟩ := CKL.form (ho1.el eC_len) hn.out
    replace hC := Lib.hid hC
    have hTa1 := Lib.hid (hTa.out hok)
    have hok1 := Lib.hid (hOk.out hok)
    clear hTa hTf hok hOk ho1 hCh
    go_wp2_with fail
    go_loopw [15, 5] (fun i tl wr => ∃ j T : Nat, j ≤ n ∧ i = .int .i64 j ∧ tl = .int .i64 T ∧ Hid (runT t j = some T) ∧ Hid (T ≤ 10000) ∧ Below w1.heap.size w1 wr) (fun i _ _ => n + 1 - (intOf i).toNat)
    case atStart => exact ⟨0, 0, Nat.zero_le _, rfl, rfl, hT0, Lib.hid (by omega), Below.refl _ _⟩
    case round =>
      obtain ⟨j, T, hj, rfl, rfl, hJ, hT9, hB⟩ := hrel
      have hB1 := hb1.trans (hB.mono hb1.size)
      by_cases hlt : j < n
      · obtain ⟨g, off, rfl, hcap, hg, hg2, c0, c1, c2, c3, c4⟩ := hC.out wr j hB hlt
        have hlt' : (j : Int) < (n : Int) := by omega
        have hs := hTs.out j
        have hx := hok1.out j hlt
        rw [hJ.out, Option.bind_some] at hs
        have hbd := parts_bd (t.getD j 0)
        generalize t.getD j 0 = x at *
        have hT9' := hT9.out
        have hA1 := C5.new wr (kN x : Nat) (cN x : Nat) (lnN x : Nat) (mN x : Nat) (bN x : Nat) 29
        obtain ⟨d0, d1, d2, d3, d4⟩ := hA1
        have hBa := hB.alloc hB.size (.cells #[.int .i64 (kN x : Nat), .int .i64 (cN x : Nat), .int .i64 (lnN x : Nat), .int .i64 (mN x : Nat), .int .u64 (bN x : Nat)] 29)
        have hBr := hb1.trans (hBa.mono hb1.size)
        have hm1 : kN x = 2 → 1 ≤ mN x := fun h => by unfold RightN at hx; omega
        replace hm1 := Lib.hid hm1
        clear hx hJ hT9
        unfold stepT at hs
        obtain ⟨K, hK⟩ : ∃ K : Int, ((kN x : Nat) : Int) = K := ⟨_, rfl⟩
        by_cases k3 : kN x = 3
        · obtain rfl : K = 3 := by omega
          rw [hK] at c0 d0
          rw [k3] at hs
          by_cases hT : 0 < T
          · rw [decide_eq_true hT] at hs
            simp only [decide_true, if_true] at hs
            replace hs := Lib.hid hs
            have g1 : decide (0 < T) = true := decide_eq_true hT
            have g2 : IntKind.i64.wrap ((T : Int) - 1) = ((T - 1 : Nat) : Int) := by rw [IntKind.wrap_i64]; omega
            have g3 : 0 < (T : Int) := by omega
            have hT2 : Hid (T - 1 ≤ 10000) := Lib.hid (by omega)
            rw [hK] at hBa
            clear hK k3 hm1 hbd
            go_wp2_with fail
            go_roundw
            case rel => exact ⟨j + 1, T - 1, by omega, by go_num, by first | rfl | go_num | (congr 1; omega), hs, hT2, hBa⟩
            case measure => first | (simp [intOf]; done) | (simp [intOf]; omega)
          · rw [decide_eq_false hT] at hs
            simp only [decide_true, Bool.true_eq_false, if_false, reduceCtorEq] at hs
            have hr := Lib.hid (hTn.out (j + 1) (by omega) hs)
            have g1 : decide (0 < T) = false := decide_eq_false hT
            have g3 : ¬ 0 < (T : Int) := by omega
            clear hs k3 hm1 hbd hT
            rw [hK] at hBr
            clear hK
            go_wp2_with fail
            go_ret
            exact ⟨ret_b hr.out.symm, hBr⟩
        · have f3 : (K == 3) = false := by rw [beq_eq_false_iff_ne]; omega
          have f3' : ¬ K = 3 := by omega
          rw [hK] at c0 d0
          rw [decide_eq_false k3] at hs
          by_cases hT : 0 < T
          · rw [decide_eq_true hT] at hs
            simp only [Bool.false_eq_true, if_false, reduceCtorEq] at hs
            have hr := Lib.hid (hTn.out (j + 1) (by omega) hs)
            have g1 : decide (0 < T) = true := decide_eq_true hT
            have g3 : 0 < (T : Int) := by omega
            clear hs k3 hm1 hbd hT
            rw [hK] at hBr
            clear hK
            go_wp2_with fail
            go_ret
            exact ⟨ret_b hr.out.symm, hBr⟩
          · rw [decide_eq_false hT] at hs
            simp only [if_true, if_neg k3] at hs
            have g1 : decide (0 < T) = false := decide_eq_false hT
            have g3 : ¬ 0 < (T : Int) := by omega
            by_cases k2 : kN x = 2
            · obtain rfl : K = 2 := by omega
              have hm2 := hm1.out k2
              rw [if_pos k2] at hs
              generalize mN x = M at *
              have g2 : IntKind.i64.wrap ((M : Int) - 1) = ((M - 1 : Nat) : Int) := by rw [IntKind.wrap_i64]; omega
              have hT2 : Hid (M - 1 ≤ 10000) := Lib.hid (by omega)
              replace hs := Lib.hid hs
              rw [hK] at hBa
              clear hK k3 k2 hm1 hm2 hbd f3 f3'
              go_wp2_with fail
              go_roundw
              case rel => exact ⟨j + 1, M - 1, by omega, by go_num, by first | rfl | go_num | (congr 1; omega), hs, hT2, hBa⟩
              case measure => first | (simp [intOf]; done) | (simp [intOf]; omega)
            · have f2 : (K == 2) = false := by rw [beq_eq_false_iff_ne]; omega
              have f2' : ¬ K = 2 := by omega
              rw [if_neg k2] at hs
              replace hs := Lib.hid hs
              rw [hK] at hBa
              clear hK k3 k2 hm1 hbd
              go_wp2_with fail
              go_roundw
              case rel => exact ⟨j + 1, T, by omega, by go_num, rfl, hs, Lib.hid hT9', hBa⟩
              case measure => first | (simp [intOf]; done) | (simp [intOf]; omega)
      · obtain rfl : j = n := by omega
        have hr : R = decide ((T : Int) = 0) := by
          rw [hTa1.out, hJ.out, Bool.eq_iff_iff, beq_iff_eq, decide_eq_true_iff, Option.some.injEq]; omega
        replace hr := Lib.hid hr
        by_cases h0 : T = 0
        · have g1 : ((T : Int) == 0) = true := by rw [beq_iff_eq]; omega
          have hr2 : Hid (R = true) := Lib.hid (by rw [hr.out]; exact decide_eq_true (by omega))
          clear h0
          go_wp2_with fail
          go_ret
          exact ⟨ret_b (by rw [hr2.out]), hB1⟩
        · have g1 : ((T : Int) == 0) = false := by rw [beq_eq_false_iff_ne]; omega
          have g2 : ¬ (T : Int) = 0 := by omega
          have hr2 : Hid (R = false) := Lib.hid (by rw [hr.out]; exact decide_eq_false (by omega))
          clear h0
          go_wp2_with fail
          go_ret
          exact ⟨ret_b (by rw [hr2.out]), hB1⟩
  · have hr := Lib.hid (hTf.out hok)
    clear hTa hTf hok hOk hCh
    go_wp2_with fail
    go_loopw [15, 5] (fun i tl wr => i = .int .i64 0 ∧ tl = .int .i64 0 ∧ Below w.heap.size w wr) (fun i _ _ => 0)
    case atStart => exact ⟨rfl, rfl, hb1⟩
    case round =>
      obtain ⟨rfl, rfl, hB⟩ := hrel
      go_wp2_with fail
      go_ret
      exact ⟨ret_b (by rw [hr.out]), hB⟩
end Go.Proofs.YtnjifmecaeagaaaDoor
