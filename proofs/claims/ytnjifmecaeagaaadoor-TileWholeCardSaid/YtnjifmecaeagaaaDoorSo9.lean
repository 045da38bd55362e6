/-
  Package tile: TileTells.
-/
import Derived.Test.YtnjifmecaeagaaaDoorSo6
import Derived.Test.YtnjifmecaeagaaaDoorSo7
import Derived.Test.YtnjifmecaeagaaaDoorSo8
import Derived.Test.YtnjifmecaeagaaaDoorTi10
set_option linter.unusedVariables false
set_option linter.unusedSimpArgs false
namespace Go.Proofs.YtnjifmecaeagaaaDoor
open Go.RowKit Go.ChangeShapes Go.WideShapes Go.Deep
theorem blksT_len9 (t : List Nat) (h : t.length ≤ 40) : (blksT t).length ≤ 320 := by
  unfold blksT
  split
  · have := blksFrom_len 0 t; omega
  · simp
theorem logsT_len9 (t : List Nat) (lane : Int) (h : t.length ≤ 40) : (logsT t lane).length ≤ 320 := by
  unfold logsT
  split
  · have := logsR_len t lane 8
    have : 8 * t.length ≤ 8 * 40 := Nat.mul_le_mul_left _ h
    omega
  · simp
theorem rowsT_len9 (t : List Nat) (h : t.length ≤ 40) : (rowsT t).length ≤ 40 := by
  unfold rowsT
  split
  · have := rowsL_len (fun k => mayN (t.getD k 0)) t.length; omega
  · simp
set_option maxRecDepth 10000 in
set_option maxHeartbeats 1000000 in
theorem tileTells (v : Value) (l : List Nat) (lane : Int) (w : World) (hw : Lw w) (hH : HL l) (hv : KL .u16 w v l) (hl1 : -9223372036854775808 ≤ lane) (hl2 : lane < 9223372036854775808) :
    Calls Tryd.prog 4 #[v, .int .i64 lane] w fun e w' => e = .returned (.bool true) ∧ Below w.heap.size w w' := by
  have hAw := awake11 w hw
  obtain ⟨nn, hnn⟩ : ∃ n, l.length = n := ⟨_, rfl⟩
  obtain ⟨A, cap, rfl, _⟩ := hv.form hnn
  by_cases h60 : 60 < nn
  · have h60' : (60 : Int) < (nn : Int) := by omega
    clear hv hw
    replace hnn := Lib.hid hnn
    go_enter Tryd.func4, Tryd.ntmps4
    go_wp2_with fail
    refine hAw.mono ?_
    rintro e w1 ⟨rfl, hb1⟩
    go_wp2_with fail
    go_ret
    exact ⟨rfl, hb1⟩
  have h60' : ¬ (60 : Int) < (nn : Int) := by omega
  have h60'' : decide ((60 : Int) < (nn : Int)) = false := decide_eq_false h60'
  have hM1 := Lib.hid (fun w1 (hb : Below w.heap.size w w1) => made_any _ l 40 w1 (hw.keep hb) hH (hv.keep hb) (by omega) (by omega))
  have hwh := Lib.hid hw
  replace hnn := Lib.hid hnn
  clear hv hw hH h60
  go_enter Tryd.func4, Tryd.ntmps4
  go_wp2_with fail
  refine hAw.mono ?_
  rintro e w1 ⟨rfl, hb1⟩
  have hMa := hM1.out _ hb1
  clear hAw hM1
  go_wp2_with fail
  refine hMa.mono ?_
  rintro e w2 ⟨v2, t, rfl, ho2, hrt, htl, hb2⟩
  have hB2 := hb1.trans (hb2.mono hb1.size)
  have hk2 := ho2.kl
  have hWt := Lib.hid (rightT_WL hrt)
  have hRg := right_any2 _ t w2 (hwh.out.keep hB2) hk2 hWt.out (by omega)
  rw [hrt] at hRg
  replace htl := Lib.hid htl
  replace hb1 := Lib.hid hb1
  replace hb2 := Lib.hid hb2
  clear ho2 hMa
  go_wp2_with fail
  refine hRg.mono ?_
  rintro e w3 ⟨rfl, hb3⟩
  have hB3 := hB2.trans (hb3.mono hB2.size)
  have hk3 := hk2.keep hb3
  have hBl := blocksT_any _ t w3 (hwh.out.keep hB3) hk3 hWt.out (by have := htl.out; omega)
  clear hRg hb3 hB2 hk2
  go_wp2_with fail
  refine hBl.mono ?_
  rintro e w4 ⟨v4, rfl, ho4, hb4⟩
  have hB4 := hB3.trans (hb4.mono hB3.size)
  have hk4 := hk3.keep hb4
  have hBr := refBlocks_any _ t w4 (hwh.out.keep hB4) hk4 hWt.out (by have := htl.out; omega)
  clear hBl hb4 hB3 hk3
  go_wp2_with fail
  refine hBr.mono ?_
  rintro e w5 ⟨v5, rfl, ho5, hb5⟩
  have hB5 := hB4.trans (hb5.mono hB4.size)
  have hk5 := hk4.keep hb5
  have hSm := sameBl v4 v5 _ _ w5 (by have := blksT_len9 t htl.out; omega) ((ho4.keep hb5).el eB_len) (ho5.el eB_len)
  rw [decide_eq_true rfl] at hSm
  clear hBr hb5 hB4 hk4 ho4 ho5
  go_wp2_with fail
  refine hSm.mono ?_
  rintro e w6 ⟨rfl, hb6⟩
  have hB6 := hB5.trans (hb6.mono hB5.size)
  have hk6 := hk5.keep hb6
  have hRw := rowsT_any _ t w6 (hwh.out.keep hB6) hk6 hWt.out (by have := htl.out; omega)
  clear hSm hb6 hB5 hk5
  go_wp2_with fail
  refine hRw.mono ?_
  rintro e w7 ⟨v7, rfl, ho7, hb7⟩
  have hB7 := hB6.trans (hb7.mono hB6.size)
  have hk7 := hk6.keep hb7
  have hRr := refRows_any _ t w7 (hwh.out.keep hB7) hk7 hWt.out (by have := htl.out; omega)
  clear hRw hb7 hB6 hk6
  go_wp2_with fail
  refine hRr.mono ?_
  rintro e w8 ⟨v8, rfl, ho8, hb8⟩
  have hB8 := hB7.trans (hb8.mono hB7.size)
  have hk8 := hk7.keep hb8
  have hSs := sameSp v7 v8 _ _ w8 (by have := rowsT_len9 t htl.out; omega) ((ho7.keep hb8).el eP_len) (ho8.el eP_len)
  rw [decide_eq_true rfl] at hSs
  clear hRr hb8 hB7 hk7 ho7 ho8
  go_wp2_with fail
  refine hSs.mono ?_
  rintro e w9 ⟨rfl, hb9⟩
  have hB9 := hB8.trans (hb9.mono hB8.size)
  have hk9 := hk8.keep hb9
  have hLg := logs_any _ t lane w9 (hwh.out.keep hB9) hk9 hWt.out htl.out hl1 hl2
  clear hSs hb9 hB8 hk8
  go_wp2_with fail
  refine hLg.mono ?_
  rintro e w10 ⟨v10, rfl, ho10, hb10⟩
  have hB10 := hB9.trans (hb10.mono hB9.size)
  have hk10 := hk9.keep hb10
  have hLr := refLogs_any _ t lane w10 (hwh.out.keep hB10) hk10 hWt.out (by have := htl.out; omega)
  clear hLg hb10 hB9 hk9
  go_wp2_with fail
  refine hLr.mono ?_
  rintro e w11 ⟨v11, rfl, ho11, hb11⟩
  have hB11 := hB10.trans (hb11.mono hB10.size)
  have hIn := ints_any v10 v11 _ _ w11 (by have := logsT_len9 t lane htl.out; omega) ((ho10.kl).keep hb11) ho11.kl
  rw [decide_eq_true rfl] at hIn
  clear hLr hb11 hB10 hk10 ho10 ho11
  go_wp2_with fail
  refine hIn.mono ?_
  rintro e w12 ⟨rfl, hb12⟩
  have hB12 := hB11.trans (hb12.mono hB11.size)
  clear hIn hb12 hB11
  go_wp2_with fail
  go_ret
  exact ⟨rfl, hB12⟩
end Go.Proofs.YtnjifmecaeagaaaDoor
