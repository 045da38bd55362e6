/-
  Package index: a chunk with other blocks, its room, whether it can be had.
-/
import Derived.Test.YtnjifmecaeagaaaDoorQIx1
set_option linter.unusedVariables false
set_option linter.unusedSimpArgs false
namespace Go.Proofs.YtnjifmecaeagaaaDoor
open Go.RowKit Go.ChangeShapes Go.WideShapes Go.Deep

def bW (x b : Nat) : Nat := if kN x = 1 then b else bN x
set_option maxRecDepth 10000 in
set_option maxHeartbeats 1000000 in
theorem with_any (x lv tk b : Nat) (w : World) :
    Calls Tryd.prog 84 #[.agg #[.int .i64 (kN x : Nat), .int .i64 (cN x : Nat), .int .i64 (lnN x : Nat), .int .i64 (mN x : Nat), .int .u64 (bN x : Nat), .int .u64 (lv : Nat), .int .u64 (tk : Nat)], .int .u64 (b : Nat)] w fun e w' => e = .returned (.agg #[.int .i64 (kN x : Nat), .int .i64 (cN x : Nat), .int .i64 (lnN x : Nat), .int .i64 (mN x : Nat), .int .u64 (bW x b : Nat)]) ∧ Below w.heap.size w w' := by
  by_cases k1 : kN x = 1
  · have f1 : (((kN x : Nat) : Int) == 1) = true := by rw [beq_iff_eq]; omega
    have hb : bW x b = b := by unfold bW; rw [if_pos k1]
    rw [hb]
    clear hb k1
    go_enter Tryd.func84, Tryd.ntmps84
    go_wp2_with fail
    refine bodyPost_ret (v := .agg #[.int .i64 (kN x : Nat), .int .i64 (cN x : Nat), .int .i64 (lnN x : Nat), .int .i64 (mN x : Nat), .int .u64 (b : Nat)]) ?_ rfl ⟨rfl, (((Below.refl _ _).alloc (Nat.le_refl _) _).alloc (by simp) _).alloc (by simp; omega) _⟩
    simp [results, Tryd.f84, go_sem]
  · have f1 : (((kN x : Nat) : Int) == 1) = false := by rw [beq_eq_false_iff_ne]; omega
    have hb : bW x b = bN x := by unfold bW; rw [if_neg k1]
    rw [hb]
    clear hb k1
    go_enter Tryd.func84, Tryd.ntmps84
    go_wp2_with fail
    refine bodyPost_ret (v := .agg #[.int .i64 (kN x : Nat), .int .i64 (cN x : Nat), .int .i64 (lnN x : Nat), .int .i64 (mN x : Nat), .int .u64 (bN x : Nat)]) ?_ rfl ⟨rfl, (((Below.refl _ _).alloc (Nat.le_refl _) _).alloc (by simp) _).alloc (by simp; omega) _⟩
    simp [results, Tryd.f84, go_sem]

theorem or_bd {a b : Nat} (ha : a < 256) (hb : b < 256) : a ||| b < 256 := Nat.or_lt_two_pow (n := 8) ha hb
theorem x7_new (w : World) (x lv tk : Nat) (t : TypeId) : (w.alloc (.cells #[.int .i64 (kN x : Nat), .int .i64 (cN x : Nat), .int .i64 (lnN x : Nat), .int .i64 (mN x : Nat), .int .u64 (bN x : Nat), .int .u64 (lv : Nat), .int .u64 (tk : Nat)] t)).cell? ⟨w.heap.size, 0, none⟩ = some (.int .i64 (kN x : Nat)) ∧ (w.alloc (.cells #[.int .i64 (kN x : Nat), .int .i64 (cN x : Nat), .int .i64 (lnN x : Nat), .int .i64 (mN x : Nat), .int .u64 (bN x : Nat), .int .u64 (lv : Nat), .int .u64 (tk : Nat)] t)).cell? ⟨w.heap.size, 1, none⟩ = some (.int .i64 (cN x : Nat)) ∧ (w.alloc (.cells #[.int .i64 (kN x : Nat), .int .i64 (cN x : Nat), .int .i64 (lnN x : Nat), .int .i64 (mN x : Nat), .int .u64 (bN x : Nat), .int .u64 (lv : Nat), .int .u64 (tk : Nat)] t)).cell? ⟨w.heap.size, 2, none⟩ = some (.int .i64 (lnN x : Nat)) ∧ (w.alloc (.cells #[.int .i64 (kN x : Nat), .int .i64 (cN x : Nat), .int .i64 (lnN x : Nat), .int .i64 (mN x : Nat), .int .u64 (bN x : Nat), .int .u64 (lv : Nat), .int .u64 (tk : Nat)] t)).cell? ⟨w.heap.size, 3, none⟩ = some (.int .i64 (mN x : Nat)) ∧ (w.alloc (.cells #[.int .i64 (kN x : Nat), .int .i64 (cN x : Nat), .int .i64 (lnN x : Nat), .int .i64 (mN x : Nat), .int .u64 (bN x : Nat), .int .u64 (lv : Nat), .int .u64 (tk : Nat)] t)).cell? ⟨w.heap.size, 4, none⟩ = some (.int .u64 (bN x : Nat)) ∧ (w.alloc (.cells #[.int .i64 (kN x : Nat), .int .i64 (cN x : Nat), .int .i64 (lnN x : Nat), .int .i64 (mN x : Nat), .int .u64 (bN x : Nat), .int .u64 (lv : Nat), .int .u64 (tk : Nat)] t)).cell? ⟨w.heap.size, 5, none⟩ = some (.int .u64 (lv : Nat)) ∧ (w.alloc (.cells #[.int .i64 (kN x : Nat), .int .i64 (cN x : Nat), .int .i64 (lnN x : Nat), .int .i64 (mN x : Nat), .int .u64 (bN x : Nat), .int .u64 (lv : Nat), .int .u64 (tk : Nat)] t)).cell? ⟨w.heap.size, 6, none⟩ = some (.int .u64 (tk : Nat)) := by
  refine ⟨?_, ?_, ?_, ?_, ?_, ?_, ?_⟩ <;> simp [go_sem]
/-- the room of a run: its lowest block that is neither live nor taken -/
def roomS (s : St) : Int := if kN s.1 = 1 then roomI (cN s.1 : Nat) (s.2.1 ||| s.2.2) else -1
set_option maxRecDepth 10000 in
set_option maxHeartbeats 1000000 in
theorem roomS_any (x lv tk : Nat) (w : World) (hw : Lw w) (hl : lv < 256) (ht : tk < 256) :
    Calls Tryd.prog 98 #[.agg #[.int .i64 (kN x : Nat), .int .i64 (cN x : Nat), .int .i64 (lnN x : Nat), .int .i64 (mN x : Nat), .int .u64 (bN x : Nat), .int .u64 (lv : Nat), .int .u64 (tk : Nat)]] w fun e w' => e = .returned (.int .i64 (roomS (x, lv, tk))) ∧ Below w.heap.size w w' := by
  have hA := (Below.refl w.heap.size w).alloc (Nat.le_refl _) (.cells #[.int .i64 (kN x : Nat), .int .i64 (cN x : Nat), .int .i64 (lnN x : Nat), .int .i64 (mN x : Nat), .int .u64 (bN x : Nat), .int .u64 (lv : Nat), .int .u64 (tk : Nat)] 99)
  obtain ⟨x0, x1, x2, x3, x4, x5, x6⟩ := x7_new w x lv tk 99
  have hOr := u64_or_nat lv tk (by omega) (by omega)
  have hob := or_bd hl ht
  have hwA := hw.keep hA
  have hWt := with_any x lv tk (lv ||| tk) (w.alloc (.cells #[.int .i64 (kN x : Nat), .int .i64 (cN x : Nat), .int .i64 (lnN x : Nat), .int .i64 (mN x : Nat), .int .u64 (bN x : Nat), .int .u64 (lv : Nat), .int .u64 (tk : Nat)] 99))
  have hRo : ∀ w9, Lw w9 → Calls Tryd.prog 107 #[.agg #[.int .i64 (kN x : Nat), .int .i64 (cN x : Nat), .int .i64 (lnN x : Nat), .int .i64 (mN x : Nat), .int .u64 (bW x (lv ||| tk) : Nat)]] w9 fun e w' => e = .returned (.int .i64 (roomS (x, lv, tk))) ∧ Below w9.heap.size w9 w' := fun w9 h9 => by
    unfold roomS bW
    by_cases k1 : kN x = 1
    · rw [if_pos k1, if_pos k1, show ((kN x : Nat) : Int) = 1 by omega]
      exact room_run (cN x : Nat) (lnN x : Nat) (mN x : Nat) (lv ||| tk) w9 h9 (by omega)
    · rw [if_neg k1, if_neg k1]
      exact room_no (kN x : Nat) (cN x : Nat) (lnN x : Nat) (mN x : Nat) (bN x : Nat) w9 (by omega)
  generalize lv ||| tk = o at *
  generalize roomS (x, lv, tk) = r at *
  replace hRo := Lib.hid hRo
  replace hwA := Lib.hid hwA
  clear hw
  go_enter Tryd.func98, Tryd.ntmps98
  go_wp2_with fail
  refine hWt.mono ?_
  rintro e w2 ⟨rfl, hb2⟩
  have hB2 := hA.trans (hb2.mono hA.size)
  have hR2 := hRo.out _ (hwA.out.keep hb2)
  clear hWt hb2
  go_wp2_with fail
  refine hR2.mono ?_
  rintro e w3 ⟨rfl, hb3⟩
  go_wp2_with fail
  go_ret
  exact ⟨rfl, hB2.trans (hb3.mono hB2.size)⟩
theorem hadS_eq (x lv tk : Nat) : hadS (x, lv, tk) = (decide (kN x = 0) || decide (((kN x : Nat) : Int) = 1 ∧ ((bW x (lv ||| tk) : Nat) : Int) = 0)) := by
  unfold hadS bW
  by_cases k1 : kN x = 1
  · rw [if_pos k1]; first | (simp [k1]; done) | (simp [k1]; omega)
  · rw [if_neg k1]; first | (simp [k1]; done) | (simp [k1]; omega)
set_option maxRecDepth 10000 in
set_option maxHeartbeats 1000000 in
theorem hadS_any (x lv tk : Nat) (w : World) (hl : lv < 256) (ht : tk < 256) :
    Calls Tryd.prog 100 #[.agg #[.int .i64 (kN x : Nat), .int .i64 (cN x : Nat), .int .i64 (lnN x : Nat), .int .i64 (mN x : Nat), .int .u64 (bN x : Nat), .int .u64 (lv : Nat), .int .u64 (tk : Nat)]] w fun e w' => e = .returned (.bool (hadS (x, lv, tk))) ∧ Below w.heap.size w w' := by
  have hA := (Below.refl w.heap.size w).alloc (Nat.le_refl _) (.cells #[.int .i64 (kN x : Nat), .int .i64 (cN x : Nat), .int .i64 (lnN x : Nat), .int .i64 (mN x : Nat), .int .u64 (bN x : Nat), .int .u64 (lv : Nat), .int .u64 (tk : Nat)] 99)
  obtain ⟨x0, x1, x2, x3, x4, x5, x6⟩ := x7_new w x lv tk 99
  have hOr := u64_or_nat lv tk (by omega) (by omega)
  have hWt := with_any x lv tk (lv ||| tk) (w.alloc (.cells #[.int .i64 (kN x : Nat), .int .i64 (cN x : Nat), .int .i64 (lnN x : Nat), .int .i64 (mN x : Nat), .int .u64 (bN x : Nat), .int .u64 (lv : Nat), .int .u64 (tk : Nat)] 99))
  have hh := hadS_eq x lv tk
  have hEm := Lib.hid (fun w => empty_any (kN x : Nat) (cN x : Nat) (lnN x : Nat) (mN x : Nat) (bW x (lv ||| tk) : Nat) w)
  generalize lv ||| tk = o at *
  generalize hadS (x, lv, tk) = r at *
  by_cases k0 : kN x = 0
  · have f0 : (((kN x : Nat) : Int) == 0) = true := by rw [beq_iff_eq]; omega
    rw [decide_eq_true k0, Bool.true_or] at hh
    subst hh
    clear k0
    go_enter Tryd.func100, Tryd.ntmps100
    go_wp2_with fail
    go_ret
    exact ⟨rfl, hA⟩
  · have f0 : (((kN x : Nat) : Int) == 0) = false := by rw [beq_eq_false_iff_ne]; omega
    rw [decide_eq_false k0, Bool.false_or] at hh
    rw [← hh] at hEm
    replace hh := Lib.hid hh
    clear k0
    go_enter Tryd.func100, Tryd.ntmps100
    go_wp2_with fail
    refine hWt.mono ?_
    rintro e w2 ⟨rfl, hb2⟩
    have hB2 := hA.trans (hb2.mono hA.size)
    clear hWt hb2
    go_wp2_with fail
    refine (hEm.out _).mono ?_
    rintro e w3 ⟨rfl, hb3⟩
    go_wp2_with fail
    go_ret
    exact ⟨rfl, hB2.trans (hb3.mono hB2.size)⟩
end Go.Proofs.YtnjifmecaeagaaaDoor
