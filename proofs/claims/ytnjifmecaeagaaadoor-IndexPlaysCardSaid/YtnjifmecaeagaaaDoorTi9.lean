/-
  The laws of package tile: TileReads.
-/
import Derived.Test.YtnjifmecaeagaaaDoorTi8
set_option linter.unusedVariables false
set_option linter.unusedSimpArgs false
namespace Go.Proofs.YtnjifmecaeagaaaDoor
open Go.RowKit Go.ChangeShapes Go.WideShapes Go.Deep

set_option maxRecDepth 10000 in
set_option maxHeartbeats 2000000 in
theorem tileReads (v : Value) (t : List Nat) (w : World) (hw : Lw w) (hW : WL t) (hv : KL .u64 w v t) :
    Calls Tryd.prog 3 #[v] w fun e w' => e = .returned (.bool true) ∧ Below w.heap.size w w' := by
  have hAw := awake11 w hw
  obtain ⟨n, hn⟩ : ∃ n, t.length = n := ⟨_, rfl⟩
  by_cases h60 : 60 < n
  · have h60' : (60 : Int) < (n : Int) := by omega
    obtain ⟨A, cap, rfl, _⟩ := hv.form hn
    clear hv hW hw
    replace hn := Lib.hid hn
    go_enter Tryd.func3, Tryd.ntmps3
    go_wp2_with fail
    refine hAw.mono ?_
    rintro e w1 ⟨rfl, hb1⟩
    go_wp2_with fail
    go_ret
    exact ⟨rfl, hb1⟩
  have h60' : ¬ (60 : Int) < (n : Int) := by omega
  have h60'' : decide ((60 : Int) < (n : Int)) = false := decide_eq_false h60'
  have hl : t.length ≤ 100000 := by omega
  have hC1 := Lib.hid (fun w1 (hb : Below w.heap.size w w1) => chunks_any v t w1 (hw.keep hb) (hv.keep hb) hW hl)
  have hC2 := Lib.hid (fun w1 (hb : Below w.heap.size w w1) => refChunks_any v t w1 (hw.keep hb) (hv.keep hb) hW hl)
  have hR1 := Lib.hid (fun w1 (hb : Below w.heap.size w w1) => right_any2 v t w1 (hw.keep hb) (hv.keep hb) hW hl)
  have hR2 := Lib.hid (fun w1 (hb : Below w.heap.size w w1) => refRight_any2 v t w1 (hw.keep hb) (hv.keep hb) hW hl)
  obtain ⟨A, cap, rfl, _⟩ := hv.form hn
  generalize rightT t = R at *
  clear hv hW hw hl h60
  go_enter Tryd.func3, Tryd.ntmps3
  go_wp2_with fail
  refine hAw.mono ?_
  rintro e w1 ⟨rfl, hb1⟩
  have hCc := hC1.out _ hb1
  clear hAw hC1
  go_wp2_with fail
  refine hCc.mono ?_
  rintro e w2 ⟨hP, hb2⟩
  have hB2 := hb1.trans (hb2.mono hb1.size)
  have hCd := hC2.out _ hB2
  clear hC2 hCc hb1 hb2
  rcases hP with ⟨hok, v1, rfl, ho1⟩ | ⟨hok, rfl⟩
  · have hk1 : CKL w2 v1 t := ho1.el eC_len
    obtain ⟨A1, c1, rfl, _⟩ := CKL.form hk1 hn
    clear ho1
    go_wp2_with fail
    refine hCd.mono ?_
    rintro e w3 ⟨hP, hb3⟩
    have hB3 := hB2.trans (hb3.mono hB2.size)
    replace hk1 := hk1.keep hb3
    rcases hP with ⟨_, v2, rfl, ho2⟩ | ⟨hno, rfl⟩
    · have hk2 : CKL w3 v2 t := ho2.el eC_len
      obtain ⟨A1', c1', he, hC⟩ := CKL.form hk1 hn
      simp only [Value.slice.injEq, true_and] at he
      obtain ⟨rfl, rfl⟩ := he
      obtain ⟨A2, c2, rfl, hD⟩ := CKL.form hk2 hn
      replace hC := Lib.hid hC
      replace hD := Lib.hid hD
      replace hn := Lib.hid hn
      clear ho2 hk1 hk2 hCd hb3 hB2 hok
      go_wp2_with fail
      go_loopw [8] (fun i wr => ∃ k : Nat, k ≤ n ∧ i = .int .i64 k ∧ Below w3.heap.size w3 wr) (fun i _ => n + 1 - (intOf i).toNat)
      case atStart => exact ⟨0, Nat.zero_le _, rfl, Below.refl _ _⟩
      case round =>
        obtain ⟨k, hk, rfl, hB⟩ := hrel
        by_cases hlt : k < n
        · obtain ⟨g, off, rfl, hcap, _, hg, a0, a1, a2, a3, a4⟩ := hC.out wr k hB hlt
          obtain ⟨g2, off2, rfl, hcap2, _, hg2, d0, d1, d2, d3, d4⟩ := hD.out wr k hB hlt
          have hlt' : (k : Int) < (n : Int) := by omega
          go_wp2_with fail
          go_region
          all_goals (try go_wp2_with fail)
          go_roundw
          case rel => exact ⟨k + 1, by omega, by go_num, hB.drew⟩
          case measure => simp [intOf]; omega
        · obtain rfl : k = n := by omega
          have hBw := hB3.trans (hB.mono hB3.size)
          go_wp2_with fail
          refine (hR1.out _ hBw).mono ?_
          rintro e w8 ⟨rfl, hb8⟩
          have hB8 := hBw.trans (hb8.mono hBw.size)
          clear hb8
          go_wp2_with fail
          refine (hR2.out _ hB8).mono ?_
          rintro e w9 ⟨rfl, hb9⟩
          go_wp2_with fail
          go_ret
          exact ⟨ret_b (by simp), hB8.trans (hb9.mono hB8.size)⟩
    · rw [hok] at hno; cases hno
  · replace hn := Lib.hid hn
    go_wp2_with fail
    refine hCd.mono ?_
    rintro e w3 ⟨hP, hb3⟩
    have hB3 := hB2.trans (hb3.mono hB2.size)
    rcases hP with ⟨hyes, _⟩ | ⟨_, rfl⟩
    · rw [hok] at hyes; cases hyes
    · clear hCd hb3 hB2 hok
      go_wp2_with fail
      go_loopw [8] (fun i wr => i = .int .i64 0 ∧ Below w.heap.size w wr) (fun i _ => 0)
      case atStart => exact ⟨rfl, hB3⟩
      case round =>
        obtain ⟨rfl, hBw⟩ := hrel
        go_wp2_with fail
        refine (hR1.out _ hBw).mono ?_
        rintro e w8 ⟨rfl, hb8⟩
        have hB8 := hBw.trans (hb8.mono hBw.size)
        clear hb8
        go_wp2_with fail
        refine (hR2.out _ hB8).mono ?_
        rintro e w9 ⟨rfl, hb9⟩
        go_wp2_with fail
        go_ret
        exact ⟨ret_b (by simp), hB8.trans (hb9.mono hB8.size)⟩
end Go.Proofs.YtnjifmecaeagaaaDoor
