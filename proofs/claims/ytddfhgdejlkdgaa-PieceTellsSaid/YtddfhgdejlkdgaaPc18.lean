/-
  The laws of package piece: PieceLays.
-/
import Derived.Test.YtddfhgdejlkdgaaPc11
import Derived.Test.YtddfhgdejlkdgaaPc17
set_option linter.unusedVariables false
namespace Go.Proofs.Ytddfhgdejlkdgaa
open Go.RowKit

theorem scatter_any (v u t : Value) (I ws : List Nat) (L : List Sp) (w : World) (hL : PBs L) (hlen : L.length ≤ 1000) (hI : I.length ≤ 100000) (hws : ws.length ≤ 100000) (hv : KL .u64 w v I) (hu : PL w u L) (ht : KL .u64 w t ws) :
    Calls Try.prog 20 #[v, u, t] w fun e w' => ∃ v', e = .returned v' ∧ OwnU w' w.heap.size v' (scatN I (placesL L) ws (min (placesL L).length ws.length)) ∧ Below w.heap.size w w' := by
  obtain ⟨AI, capI, rfl, _⟩ := hv.form rfl
  obtain ⟨A, cap, rfl, hC⟩ := hu.form rfl
  obtain ⟨AW, capW, rfl, hCW⟩ := ht.form rfl
  exact callsIn_wide.1 (scatter_any_in 4 (by omega) AI A AW I.length capI L.length cap ws.length capW I ws L w rfl hI hL rfl hlen rfl hws hv hCW hC)

set_option maxHeartbeats 1000000 in
theorem pieceLays_n1 (v0 v1 v2 : Value) (I : List Nat) (l : List Sp) (ws : List Nat) (w : World) (h0 : KL .u64 w v0 I) (hl : PI l) (h1 : PL w v1 l) (h2 : KL .u64 w v2 ws) (hf : fewL l = false) :
    Calls Try.prog 4 #[v0, v1, v2] w fun e w' => e = .returned (.bool true) ∧ Below w.heap.size w w' := by
  obtain ⟨A, cap, rfl, _⟩ := h0.form rfl
  obtain ⟨A2, cap2, rfl, _⟩ := h2.form rfl
  have hF := Lib.hid (fun w1 (hb : Below w.heap.size w w1) => few_any v1 l w1 (h1.keep hb) hl.1)
  rw [hf] at hF
  clear h0 h1 h2 hl
  go_enter Try.func4, Try.ntmps4
  go_wp2_with fail
  refine (awake14 _).mono ?_
  rintro e w1 ⟨rfl, hb1⟩
  go_wp2_with fail
  refine (hF.out _ hb1).mono ?_
  rintro e w2 ⟨rfl, hb2⟩
  have hB2 := hb1.trans (hb2.mono hb1.size)
  go_wp2_with fail
  go_ret
  exact ⟨rfl, hB2⟩
set_option maxHeartbeats 1000000 in
theorem pieceLays_n2 (v0 v1 v2 : Value) (I : List Nat) (l : List Sp) (ws : List Nat) (w : World) (h0 : KL .u64 w v0 I) (hl : PI l) (h1 : PL w v1 l) (h2 : KL .u64 w v2 ws) (hf : fewL l = true) (hbig : 60 < I.length) :
    Calls Try.prog 4 #[v0, v1, v2] w fun e w' => e = .returned (.bool true) ∧ Below w.heap.size w w' := by
  obtain ⟨A, cap, rfl, _⟩ := h0.form rfl
  obtain ⟨A2, cap2, rfl, _⟩ := h2.form rfl
  have hF := Lib.hid (fun w1 (hb : Below w.heap.size w w1) => few_any v1 l w1 (h1.keep hb) hl.1)
  rw [hf] at hF
  have hbb : (60 : Int) < (I.length : Int) := by omega
  clear h0 h1 h2 hl
  go_enter Try.func4, Try.ntmps4
  go_wp2_with fail
  refine (awake14 _).mono ?_
  rintro e w1 ⟨rfl, hb1⟩
  go_wp2_with fail
  refine (hF.out _ hb1).mono ?_
  rintro e w2 ⟨rfl, hb2⟩
  have hB2 := hb1.trans (hb2.mono hb1.size)
  go_wp2_with fail
  go_ret
  exact ⟨rfl, hB2⟩
set_option maxHeartbeats 1000000 in
theorem pieceLays_n3 (v0 v1 v2 : Value) (I : List Nat) (l : List Sp) (ws : List Nat) (w : World) (h0 : KL .u64 w v0 I) (hl : PI l) (h1 : PL w v1 l) (h2 : KL .u64 w v2 ws) (hf : fewL l = true) (hI : I.length ≤ 60) (hbig : 60 < ws.length) :
    Calls Try.prog 4 #[v0, v1, v2] w fun e w' => e = .returned (.bool true) ∧ Below w.heap.size w w' := by
  obtain ⟨A, cap, rfl, _⟩ := h0.form rfl
  obtain ⟨A2, cap2, rfl, _⟩ := h2.form rfl
  have hF := Lib.hid (fun w1 (hb : Below w.heap.size w w1) => few_any v1 l w1 (h1.keep hb) hl.1)
  rw [hf] at hF
  have hbb : (60 : Int) < (ws.length : Int) := by omega
  have hba : (I.length : Int) ≤ (60 : Int) := by omega
  clear h0 h1 h2 hl
  go_enter Try.func4, Try.ntmps4
  go_wp2_with fail
  refine (awake14 _).mono ?_
  rintro e w1 ⟨rfl, hb1⟩
  go_wp2_with fail
  refine (hF.out _ hb1).mono ?_
  rintro e w2 ⟨rfl, hb2⟩
  have hB2 := hb1.trans (hb2.mono hb1.size)
  go_wp2_with fail
  go_ret
  exact ⟨rfl, hB2⟩
set_option maxRecDepth 10000 in
set_option maxHeartbeats 4000000 in
theorem pieceLays_yes (v0 v1 v2 : Value) (I : List Nat) (l : List Sp) (ws : List Nat) (w : World) (h0 : KL .u64 w v0 I) (hl : PI l) (h1 : PL w v1 l) (h2 : KL .u64 w v2 ws) (hf : fewL l = true) (hI : I.length ≤ 60) (hws : ws.length ≤ 60) :
    Calls Try.prog 4 #[v0, v1, v2] w fun e w' => e = .returned (.bool true) ∧ Below w.heap.size w w' := by
  obtain ⟨f1, f2, f3⟩ := few_of hf
  have hF := Lib.hid (fun w1 (hb : Below w.heap.size w w1) => few_any v1 l w1 (h1.keep hb) hl.1)
  rw [hf] at hF
  have hG1 := Lib.hid (fun w1 (hb : Below w.heap.size w w1) => gather_any v0 v1 I l w1 f1 (by omega) (h0.keep hb) (h1.keep hb))
  have hG2 := Lib.hid (fun w1 (hb : Below w.heap.size w w1) => refGather_any v0 v1 I l w1 f1 (by omega) (by omega) (h0.keep hb) (h1.keep hb))
  have hS1 := Lib.hid (fun w1 (hb : Below w.heap.size w w1) => scatter_any v0 v1 v2 I ws l w1 f1 (by omega) (by omega) (by omega) (h0.keep hb) (h1.keep hb) (h2.keep hb))
  have hS2 := Lib.hid (fun w1 (hb : Below w.heap.size w w1) => refScatter_any v0 v1 v2 I ws l w1 f1 (by omega) (by omega) (by omega) (h0.keep hb) (h1.keep hb) (h2.keep hb))
  have n1 := totS_le l f1
  have hgl : (gathL I l).length ≤ 9000 := by unfold gathL; rw [List.length_map, (placesL_len l f1).1]; omega
  have hsl : (scatN I (placesL l) ws (min (placesL l).length ws.length)).length ≤ 60 := by rw [scatN_len]; exact hI
  generalize gathL I l = GL at *
  generalize scatN I (placesL l) ws (min (placesL l).length ws.length) = GM at *
  have hWo := fun v u w hv hu => words_any v u GL GL w (by omega) hv hu
  rw [show decide (GL = GL) = true from by simp] at hWo
  replace hWo := Lib.hid hWo
  have hWp := fun v u w hv hu => words_any v u GM GM w (by omega) hv hu
  rw [show decide (GM = GM) = true from by simp] at hWp
  replace hWp := Lib.hid hWp
  obtain ⟨A, cap, rfl, _⟩ := h0.form rfl
  obtain ⟨A2, cap2, rfl, _⟩ := h2.form rfl
  have hb60 : (I.length : Int) ≤ 60 := by omega
  have hb61 : (ws.length : Int) ≤ 60 := by omega
  clear h0 h1 h2 hl f1 f2 f3 n1 hf
  go_enter Try.func4, Try.ntmps4
  have hB0 := Below.refl w.heap.size w
  go_wp2_with fail
  refine (awake14 _).mono ?_
  rintro e w1 ⟨rfl, hb1⟩
  have hB1 := hB0.trans (hb1.mono hB0.size)
  clear hb1 hB0
  go_wp2_with fail
  refine (hF.out _ hB1).mono ?_
  rintro e w2 ⟨rfl, hb2⟩
  have hB2 := hB1.trans (hb2.mono hB1.size)
  clear hb2 hB1
  go_wp2_with fail
  refine (hG1.out _ hB2).mono ?_
  rintro e w3 ⟨va, rfl, ho3, hb3⟩
  have hB3 := hB2.trans (hb3.mono hB2.size)
  have ka := ho3.kl
  clear hb3 hB2
  clear ho3
  go_wp2_with fail
  refine (hG2.out _ hB3).mono ?_
  rintro e w4 ⟨vb, rfl, ho4, hb4⟩
  have hB4 := hB3.trans (hb4.mono hB3.size)
  replace ka := ka.keep hb4
  have kb := ho4.kl
  clear hb4 hB3
  clear ho4
  go_wp2_with fail
  refine (hWo.out _ _ _ ka kb).mono ?_
  rintro e w5 ⟨rfl, hb5⟩
  have hB5 := hB4.trans (hb5.mono hB4.size)
  replace ka := ka.keep hb5
  replace kb := kb.keep hb5
  clear hb5 hB4
  go_wp2_with fail
  refine (hS1.out _ hB5).mono ?_
  rintro e w6 ⟨vc, rfl, ho6, hb6⟩
  have hB6 := hB5.trans (hb6.mono hB5.size)
  replace ka := ka.keep hb6
  replace kb := kb.keep hb6
  have kc := ho6.kl
  clear hb6 hB5
  clear ho6
  go_wp2_with fail
  refine (hS2.out _ hB6).mono ?_
  rintro e w7 ⟨vd, rfl, ho7, hb7⟩
  have hB7 := hB6.trans (hb7.mono hB6.size)
  replace ka := ka.keep hb7
  replace kb := kb.keep hb7
  replace kc := kc.keep hb7
  have kd := ho7.kl
  clear hb7 hB6
  clear ho7
  go_wp2_with fail
  refine (hWp.out _ _ _ kc kd).mono ?_
  rintro e w8 ⟨rfl, hb8⟩
  have hB8 := hB7.trans (hb8.mono hB7.size)
  replace ka := ka.keep hb8
  replace kb := kb.keep hb8
  replace kc := kc.keep hb8
  replace kd := kd.keep hb8
  clear hb8 hB7
  go_wp2_with fail
  go_ret
  exact ⟨rfl, hB8⟩
theorem pieceLays (v0 v1 v2 : Value) (I : List Nat) (l : List Sp) (ws : List Nat) (w : World) (h0 : KL .u64 w v0 I) (hl : PI l) (h1 : PL w v1 l) (h2 : KL .u64 w v2 ws) :
    Calls Try.prog 4 #[v0, v1, v2] w fun e w' => e = .returned (.bool true) ∧ Below w.heap.size w w' := by
  cases hf : fewL l
  · exact pieceLays_n1 v0 v1 v2 I l ws w h0 hl h1 h2 hf
  by_cases hI : 60 < I.length
  · exact pieceLays_n2 v0 v1 v2 I l ws w h0 hl h1 h2 hf hI
  by_cases hW : 60 < ws.length
  · exact pieceLays_n3 v0 v1 v2 I l ws w h0 hl h1 h2 hf (by omega) hW
  · exact pieceLays_yes v0 v1 v2 I l ws w h0 hl h1 h2 hf (by omega) (by omega)
end Go.Proofs.Ytddfhgdejlkdgaa
