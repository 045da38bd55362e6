/-
  Package tile: the document's tail and Right.
-/
import Derived.Test.YtnjifmecaeagaaaDoorTi3
import Derived.Test.YtnjifmecaeagaaaDoorIxM
set_option linter.unusedVariables false
set_option linter.unusedSimpArgs false
namespace Go.Proofs.YtnjifmecaeagaaaDoor
open Go.RowKit Go.ChangeShapes Go.WideShapes Go.Deep

theorem tailB_no {t : List Nat} {k i : Nat} (h : tailB t k i = false) : tailB t (k + 1) i = (decide (kN (t.getD k 0) = 2) && decide (i < k + mN (t.getD k 0))) := by
  rw [tailB_succ, h, Bool.false_or]
theorem tailB_mono {t : List Nat} {k m i : Nat} (h : tailB t k i = true) (hk : k ≤ m) : tailB t m i = true := by
  rw [tailB_iff] at h ⊢
  obtain ⟨q, h1, h2⟩ := h
  exact ⟨q, by omega, h2⟩
set_option maxRecDepth 10000 in
set_option maxHeartbeats 1000000 in
theorem refTail_any (v : Value) (t : List Nat) (i n : Nat) (w : World) (hv : CKL w v t) (hn : t.length = n) (hi : i ≤ n) (hl : n ≤ 100000) :
    Calls Tryd.prog 59 #[v, .int .i64 (i : Nat)] w fun e w' => e = .returned (.bool (tailB t i i)) ∧ Below w.heap.size w w' := by
  obtain ⟨A, cap, rfl, hC⟩ := hv.form hn
  replace hC := Lib.hid hC
  have hS := Lib.hid (fun k => tailB_succ t k i)
  have hM := Lib.hid (fun k (hk : k ≤ i) (h : tailB t k i = true) => tailB_mono (m := i) h hk)
  have h0 := Lib.hid (show tailB t 0 i = false from rfl)
  generalize hR : tailB t i i = R at *
  replace hR := Lib.hid hR
  replace hn := Lib.hid hn
  clear hv
  go_enter Tryd.func59, Tryd.ntmps59
  go_wp2_with fail
  go_loopw [5] (fun q wr => ∃ j : Nat, j ≤ i ∧ q = .int .i64 j ∧ Hid (tailB t j i = false) ∧ Below w.heap.size w wr) (fun q _ => i + 1 - (intOf q).toNat)
  case atStart => exact ⟨0, Nat.zero_le _, rfl, h0, Below.refl _ _⟩
  case round =>
    obtain ⟨j, hj, rfl, hF, hB⟩ := hrel
    by_cases hlt : j < i
    · obtain ⟨g, off, rfl, hcap, hg, hg2, c0, c1, c2, c3, c4⟩ := hC.out wr j hB (by omega)
      have hlt' : (j : Int) < (i : Int) := by omega
      have hlt2 : (j : Int) < (n : Int) := by omega
      have hs := hS.out j
      have hm := hM.out (j + 1) (by omega)
      rw [hF.out, Bool.false_or] at hs
      have hbd := parts_bd (t.getD j 0)
      generalize t.getD j 0 = x at *
      obtain ⟨K, hK⟩ : ∃ K : Int, ((kN x : Nat) : Int) = K := ⟨_, rfl⟩
      rw [hK] at c0
      by_cases k2 : kN x = 2
      · obtain rfl : K = 2 := by omega
        rw [decide_eq_true k2, Bool.true_and] at hs
        generalize mN x = M at *
        have g2 : IntKind.i64.wrap ((j : Int) + (M : Int)) = (j : Int) + (M : Int) := by rw [IntKind.wrap_i64]; omega
        by_cases q : i < j + M
        · have q' : (i : Int) < (j : Int) + (M : Int) := by omega
          rw [decide_eq_true q] at hs
          have hr := Lib.hid (hm hs)
          clear hs hm hK k2 hbd q
          go_wp2_with fail
          go_ret
          exact ⟨ret_b (by rw [hr.out]), hB⟩
        · have q' : ¬ (i : Int) < (j : Int) + (M : Int) := by omega
          have q2 : decide ((i : Int) < (j : Int) + (M : Int)) = false := decide_eq_false q'
          rw [decide_eq_false q] at hs
          replace hs := Lib.hid hs
          clear hm hK k2 hbd q
          go_wp2_with fail
          go_roundw
          case rel => exact ⟨j + 1, by omega, by go_num, hs, hB⟩
          case measure => first | (simp [intOf]; done) | (simp [intOf]; omega)
      · have f2 : (K == 2) = false := by rw [beq_eq_false_iff_ne]; omega
        have f2' : ¬ K = 2 := by omega
        rw [decide_eq_false k2, Bool.false_and] at hs
        replace hs := Lib.hid hs
        clear hm hK k2 hbd
        go_wp2_with fail
        go_roundw
        case rel => exact ⟨j + 1, by omega, by go_num, hs, hB⟩
        case measure => first | (simp [intOf]; done) | (simp [intOf]; omega)
    · obtain rfl : j = i := by omega
      have hr := Lib.hid (hF.out.symm.trans hR.out)
      go_wp2_with fail
      go_ret
      exact ⟨ret_b hr.out, hB⟩

set_option maxRecDepth 10000 in
set_option maxHeartbeats 1000000 in
theorem refRight_any2 (v : Value) (t : List Nat) (w : World) (hw : Lw w) (hv : KL .u64 w v t) (hW : WL t) (hl : t.length ≤ 100000) :
    Calls Tryd.prog 19 #[v] w fun e w' => e = .returned (.bool (rightT t)) ∧ Below w.heap.size w w' := by
  have hCh := refChunks_any v t w hw hv hW hl
  rw [← right_same]
  obtain ⟨n, hn⟩ : ∃ n, t.length = n := ⟨_, rfl⟩
  have hn9 : n ≤ 100000 := by omega
  have hTa := Lib.hid (fun (h : t.all okN = true) => show refRightB t = refRightN t n from by unfold refRightB; rw [h, hn, Bool.true_and])
  have hTn := Lib.hid (fun (h : t.all okN = true) k (hk : k ≤ n) (hf : refRightN t k = false) => show refRightB t = false from by unfold refRightB; rw [h, hn, Bool.true_and]; exact refRightN_false hf hk)
  have hTs := Lib.hid (fun k => refRightN_succ t k)
  rw [hn] at hTs
  have hT0 := Lib.hid (show refRightN t 0 = true from rfl)
  have hTf := Lib.hid (fun (h : t.all okN = false) => show refRightB t = false from by unfold refRightB; rw [h]; rfl)
  generalize hR : refRightB t = R at *
  replace hR := Lib.hid hR
  obtain ⟨A, cap, rfl, _⟩ := hv.form hn
  clear hv hW hl hw
  go_enter Tryd.func19, Tryd.ntmps19
  go_wp2_with fail
  refine hCh.mono ?_
  rintro e w1 ⟨hP, hb1⟩
  rcases hP with ⟨hok, v1, rfl, ho1⟩ | ⟨hok, rfl⟩
  · have hkl : CKL w1 v1 t := ho1.el eC_len
    have hTl := Lib.hid (fun wr (hb : Below w1.heap.size w1 wr) i (hi : i ≤ n) => refTail_any v1 t i n wr (hkl.keep hb) hn hi hn9)
    obtain ⟨A1, c1, rfl, hC⟩ := hkl.form hn
    replace hC := Lib.hid hC
    replace hn := Lib.hid hn
    have hTa1 := Lib.hid (hTa.out hok)
    have hTn1 := Lib.hid (hTn.out hok)
    clear hTa hTf hok hTn ho1 hCh hkl
    go_wp2_with fail
    go_loopw [5] (fun i wr => ∃ j : Nat, j ≤ n ∧ i = .int .i64 j ∧ Hid (refRightN t j = true) ∧ Below w1.heap.size w1 wr) (fun i _ => n + 1 - (intOf i).toNat)
    case atStart => exact ⟨0, Nat.zero_le _, rfl, hT0, Below.refl _ _⟩
    case round =>
      obtain ⟨j, hj, rfl, hJ, hB⟩ := hrel
      have hB1 := hb1.trans (hB.mono hb1.size)
      by_cases hlt : j < n
      · have hlt' : (j : Int) < (n : Int) := by omega
        have hs := hTs.out j
        rw [hJ.out, Bool.true_and] at hs
        have hTw := hTl.out wr hB j hj
        have hbd := parts_bd (t.getD j 0)
        have hCw := Lib.hid (fun w2 (hb : Below w1.heap.size w1 w2) => hC.out w2 j hb hlt)
        generalize t.getD j 0 = x at *
        obtain ⟨K, hK⟩ : ∃ K : Int, ((kN x : Nat) : Int) = K := ⟨_, rfl⟩
        rw [hK] at hCw
        cases htl : tailB t j j with
        | true =>
          rw [htl] at hs hTw
          by_cases k3 : kN x = 3
          · obtain rfl : K = 3 := by omega
            rw [decide_eq_true k3, decide_eq_false (show ¬ kN x = 2 by omega)] at hs
            replace hs : refRightN t (j + 1) = true := hs.trans rfl
            replace hs := Lib.hid hs
            clear hK k3 hbd htl
            go_wp2_with fail
            refine hTw.mono ?_
            rintro e w2 ⟨rfl, hb⟩
            have hB2 := hB.trans (hb.mono hB.size)
            obtain ⟨g, off, rfl, hcap, hg, hg2, c0, c1, c2, c3, c4⟩ := hCw.out w2 hB2
            clear hTw hb
            go_wp2_with fail
            go_roundw
            case rel => exact ⟨j + 1, by omega, by go_num, hs, hB2⟩
            case measure => first | (simp [intOf]; done) | (simp [intOf]; omega)
          · have f3 : (K == 3) = false := by rw [beq_eq_false_iff_ne]; omega
            have f3' : ¬ K = 3 := by omega
            rw [decide_eq_false k3] at hs
            replace hs : refRightN t (j + 1) = false := hs.trans rfl
            have hr := Lib.hid (hTn1.out (j + 1) (by omega) hs)
            clear hK k3 hbd htl hs
            go_wp2_with fail
            refine hTw.mono ?_
            rintro e w2 ⟨rfl, hb⟩
            have hB2 := hB.trans (hb.mono hB.size)
            obtain ⟨g, off, rfl, hcap, hg, hg2, c0, c1, c2, c3, c4⟩ := hCw.out w2 hB2
            clear hTw hb
            go_wp2_with fail
            go_ret
            exact ⟨ret_b (by rw [hr.out]), hb1.trans (hB2.mono hb1.size)⟩
        | false =>
          rw [htl] at hs hTw
          by_cases k3 : kN x = 3
          · obtain rfl : K = 3 := by omega
            rw [decide_eq_true k3] at hs
            replace hs : refRightN t (j + 1) = false := hs.trans rfl
            have hr := Lib.hid (hTn1.out (j + 1) (by omega) hs)
            clear hK k3 hbd htl hs
            go_wp2_with fail
            refine hTw.mono ?_
            rintro e w2 ⟨rfl, hb⟩
            have hB2 := hB.trans (hb.mono hB.size)
            obtain ⟨g, off, rfl, hcap, hg, hg2, c0, c1, c2, c3, c4⟩ := hCw.out w2 hB2
            clear hTw hb
            go_wp2_with fail
            go_ret
            exact ⟨ret_b (by rw [hr.out]), hb1.trans (hB2.mono hb1.size)⟩
          · have f3 : (K == 3) = false := by rw [beq_eq_false_iff_ne]; omega
            have f3' : ¬ K = 3 := by omega
            rw [decide_eq_false k3] at hs
            by_cases k2 : kN x = 2
            · obtain rfl : K = 2 := by omega
              rw [decide_eq_true k2] at hs
              generalize mN x = M at *
              have g2 : IntKind.i64.wrap ((j : Int) + (M : Int)) = (j : Int) + (M : Int) := by rw [IntKind.wrap_i64]; omega
              by_cases q : n < j + M
              · have q' : (n : Int) < (j : Int) + (M : Int) := by omega
                rw [decide_eq_true q] at hs
                replace hs : refRightN t (j + 1) = false := hs.trans rfl
                have hr := Lib.hid (hTn1.out (j + 1) (by omega) hs)
                clear hK k3 k2 hbd htl hs q f3 f3'
                go_wp2_with fail
                refine hTw.mono ?_
                rintro e w2 ⟨rfl, hb⟩
                have hB2 := hB.trans (hb.mono hB.size)
                obtain ⟨g, off, rfl, hcap, hg, hg2, c0, c1, c2, c3, c4⟩ := hCw.out w2 hB2
                clear hTw hb
                go_wp2_with fail
                go_ret
                exact ⟨ret_b (by rw [hr.out]), hb1.trans (hB2.mono hb1.size)⟩
              · have q' : ¬ (n : Int) < (j : Int) + (M : Int) := by omega
                have q2 : decide ((n : Int) < (j : Int) + (M : Int)) = false := decide_eq_false q'
                rw [decide_eq_false q] at hs
                replace hs : refRightN t (j + 1) = true := hs.trans rfl
                replace hs := Lib.hid hs
                clear hK k3 k2 hbd htl q f3 f3'
                go_wp2_with fail
                refine hTw.mono ?_
                rintro e w2 ⟨rfl, hb⟩
                have hB2 := hB.trans (hb.mono hB.size)
                obtain ⟨g, off, rfl, hcap, hg, hg2, c0, c1, c2, c3, c4⟩ := hCw.out w2 hB2
                clear hTw hb
                go_wp2_with fail
                go_roundw
                case rel => exact ⟨j + 1, by omega, by go_num, hs, hB2⟩
                case measure => first | (simp [intOf]; done) | (simp [intOf]; omega)
            · have f2 : (K == 2) = false := by rw [beq_eq_false_iff_ne]; omega
              have f2' : ¬ K = 2 := by omega
              rw [decide_eq_false k2] at hs
              replace hs : refRightN t (j + 1) = true := hs.trans rfl
              replace hs := Lib.hid hs
              clear hK k3 k2 hbd htl
              go_wp2_with fail
              refine hTw.mono ?_
              rintro e w2 ⟨rfl, hb⟩
              have hB2 := hB.trans (hb.mono hB.size)
              obtain ⟨g, off, rfl, hcap, hg, hg2, c0, c1, c2, c3, c4⟩ := hCw.out w2 hB2
              clear hTw hb
              go_wp2_with fail
              go_roundw
              case rel => exact ⟨j + 1, by omega, by go_num, hs, hB2⟩
              case measure => first | (simp [intOf]; done) | (simp [intOf]; omega)
      · obtain rfl : j = n := by omega
        have hr := Lib.hid (hTa1.out.trans hJ.out)
        go_wp2_with fail
        go_ret
        exact ⟨ret_b (by rw [hr.out]), hB1⟩
  · have hr := Lib.hid (hTf.out hok)
    clear hTa hTf hok hTn hCh
    go_wp2_with fail
    go_ret
    exact ⟨ret_b (by rw [hr.out]), hb1⟩
end Go.Proofs.YtnjifmecaeagaaaDoor
