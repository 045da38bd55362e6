/-
  What the document's answers on geometries are: contracts on the calls (5).
-/
import Derived.Test.YtjmilngndoiceaaUGeo4
namespace Go.Proofs.Ytjmilngndoiceaa
open Go.RowKit

set_option maxHeartbeats 400000 in
theorem refChunks_out (W L : Int) (w : World) (h : L < 1 ∨ 64 < L ∨ 65536 < W) :
    Calls Try.prog 20 #[.agg #[.int .i64 W, .int .i64 L]] w fun e w' => e = .returned (.int .i64 0) ∧ Below w.heap.size w w' := by
  by_cases a1 : L < 1
  · clear h
    go_enter Try.func20, Try.ntmps20
    go_wp2
    go_ret
    exact ⟨rfl, by go_grown⟩
  by_cases a2 : 64 < L
  · clear h
    go_enter Try.func20, Try.ntmps20
    go_wp2
    go_ret
    exact ⟨rfl, by go_grown⟩
  have a3 : 65536 < W := by omega
  clear h
  go_enter Try.func20, Try.ntmps20
  go_wp2
  go_ret
  exact ⟨rfl, by go_grown⟩

def rN (W L : Int) : Int := if gOk W L then gN W L else 0
set_option maxHeartbeats 1000000 in
theorem refChunks_in (W L : Int) (w : World) (h1 : 1 ≤ L) (h2 : L ≤ 64) (h3 : W ≤ 65536) :
    Calls Try.prog 20 #[.agg #[.int .i64 W, .int .i64 L]] w fun e w' => e = .returned (.int .i64 (rN W L)) ∧ Below w.heap.size w w' := by
  go_enter Try.func20, Try.ntmps20
  go_wp2
  go_loop [3] (fun n => ∃ k : Nat, n = .int .i64 k ∧ (k = 0 ∨ 10 + 73 * L + 33 * (k : Int) ≤ W)) (fun n => 2000 - (intOf n).toNat)
  case atStart => exact ⟨0, rfl, .inl rfl⟩
  case round =>
    obtain ⟨k, rfl, hk⟩ := hrel
    have hk2 : (k : Int) ≤ 1990 := by omega
    by_cases hlt : 10 + 73 * L + 33 * ((k : Int) + 1) ≤ W
    · clear hk
      go_wp2
      go_round
      case rel => exact ⟨k + 1, by go_num, .inr (by omega)⟩
      case measure => simp [intOf]; omega
    · have Hk := Lib.hid hk
      clear hk
      go_wp2
      go_ret
      refine ⟨ret_i ?_, by go_grown⟩
      have hk := Hk.out
      unfold rN
      by_cases ho : gOk W L = true
      · have := gN_bd ho
        rw [if_pos ho]; omega
      · rw [if_neg ho]
        have := gOk_f (by simpa using ho : gOk W L = false)
        omega
theorem refChunks_t (W L : Int) (w : World) (h : gOk W L = true) :
    Calls Try.prog 20 #[.agg #[.int .i64 W, .int .i64 L]] w fun e w' => e = .returned (.int .i64 (gN W L)) ∧ Below w.heap.size w w' := by
  obtain ⟨h1, h2, h3, h4⟩ := gOk_t h
  have := refChunks_in W L w h1 h2 h3
  rwa [show rN W L = gN W L from if_pos h] at this
theorem refChunks_f (W L : Int) (w : World) (h : gOk W L = false) :
    Calls Try.prog 20 #[.agg #[.int .i64 W, .int .i64 L]] w fun e w' => e = .returned (.int .i64 0) ∧ Below w.heap.size w w' := by
  by_cases ho : L < 1 ∨ 64 < L ∨ 65536 < W
  · exact refChunks_out W L w ho
  · have := refChunks_in W L w (by omega) (by omega) (by omega)
    rwa [show rN W L = 0 from if_neg (by simp [h])] at this

set_option maxHeartbeats 400000 in
theorem refRight_t (W L : Int) (w : World) (h : gOk W L = true) :
    Calls Try.prog 19 #[.agg #[.int .i64 W, .int .i64 L]] w fun e w' => e = .returned (.bool true) ∧ Below w.heap.size w w' := by
  obtain ⟨n1, n2, n3, n4⟩ := gN_bd h
  have H := Lib.hid h
  clear h
  go_enter Try.func19, Try.ntmps19
  go_wp2_with fail
  refine (refChunks_t W L _ H.out).mono ?_
  rintro e w1 ⟨rfl, hb⟩
  go_wp2_with fail
  go_ret
  exact ⟨rfl, ((Below.refl _ _).alloc (Nat.le_refl _) _).trans (hb.mono (by simp))⟩

set_option maxHeartbeats 400000 in
theorem refRight_f (W L : Int) (w : World) (h : gOk W L = false) :
    Calls Try.prog 19 #[.agg #[.int .i64 W, .int .i64 L]] w fun e w' => e = .returned (.bool false) ∧ Below w.heap.size w w' := by
  have H := Lib.hid h
  clear h
  go_enter Try.func19, Try.ntmps19
  go_wp2_with fail
  refine (refChunks_f W L _ H.out).mono ?_
  rintro e w1 ⟨rfl, hb⟩
  go_wp2_with fail
  go_ret
  exact ⟨rfl, ((Below.refl _ _).alloc (Nat.le_refl _) _).trans (hb.mono (by simp))⟩

end Go.Proofs.Ytjmilngndoiceaa
