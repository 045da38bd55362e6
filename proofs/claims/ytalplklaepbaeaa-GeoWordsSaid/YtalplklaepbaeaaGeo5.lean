/-
  What the document's answers on geometries are: contracts on the calls (5).
-/
import Derived.Test.YtalplklaepbaeaaGeo4
namespace Go.Proofs.Ytalplklaepbaeaa
open Go.RowKit

set_option maxHeartbeats 400000 in
theorem refChunks_out (W L : Int) (w : World) (h : L < 1 ∨ 64 < L ∨ 65536 < W) :
    Calls Try.prog 12 #[.agg #[.int .i64 W, .int .i64 L]] w fun e w' => e = .returned (.int .i64 0) ∧ Below w.heap.size w w' := by
  by_cases a1 : L < 1
  · clear h
    go_enter Try.func12, Try.ntmps12
    go_wp2
    go_ret
    exact ⟨rfl, by go_grown⟩
  by_cases a2 : 64 < L
  · clear h
    go_enter Try.func12, Try.ntmps12
    go_wp2
    go_ret
    exact ⟨rfl, by go_grown⟩
  have a3 : 65536 < W := by omega
  clear h
  go_enter Try.func12, Try.ntmps12
  go_wp2
  go_ret
  exact ⟨rfl, by go_grown⟩

def rN (W L : Int) : Int := if gOk W L then gN W L else 0
set_option maxHeartbeats 1000000 in
theorem refChunks_in (W L : Int) (w : World) (h1 : 1 ≤ L) (h2 : L ≤ 64) (h3 : W ≤ 65536) :
    Calls Try.prog 12 #[.agg #[.int .i64 W, .int .i64 L]] w fun e w' => e = .returned (.int .i64 (rN W L)) ∧ Below w.heap.size w w' := by
  go_enter Try.func12, Try.ntmps12
  go_wp2
  go_loop [3] (fun n => ∃ k : Nat, n = .int .i64 k ∧ (k = 0 ∨ 10 + 73 * L + 33 * (k : Int) ≤ W)) (fun n => 2000 - (intOf n).toNat)
  case atStart => exact ⟨0, rfl, .inl rfl⟩
  case round =>
    obtain ⟨k, rfl, hk⟩ := hrel
    have hk2 : (k : Int) ≤ 1990 := by omega
    by_cases hlt : 10 + 73 * L + 33 * ((k : Int) + 1) ≤ W
    · clear hk
      go_wp2
      go_round
      case rel => exact ⟨k + 1, by go_num, .inr (by omega)⟩
      case measure => simp [intOf]; omega
    · have Hk := Lib.hid hk
      clear hk
      go_wp2
      go_ret
      refine ⟨ret_i ?_, by go_grown⟩
      have hk := Hk.out
      unfold rN
      by_cases ho : gOk W L = true
      · have := gN_bd ho
        rw [if_pos ho]; omega
      · rw [if_neg ho]
        have := gOk_f (by simpa using ho : gOk W L = false)
        omega
theorem refChunks_t (W L : Int) (w : World) (h : gOk W L = true) :
    Calls Try.prog 12 #[.agg #[.int .i64 W, .int .i64 L]] w fun e w' => e = .returned (.int .i64 (gN W L)) ∧ Below w.heap.size w w' := by
  obtain ⟨h1, h2, h3, h4⟩ := gOk_t h
  have := refChunks_in W L w h1 h2 h3
  rwa [show rN W L = gN W L from if_pos h] at this
theorem refChunks_f (W L : Int) (w : World) (h : gOk W L = false) :
    Calls Try.prog 12 #[.agg #[.int .i64 W, .int .i64 L]] w fun e w' => e = .returned (.int .i64 0) ∧ Below w.heap.size w w' := by
  by_cases ho : L < 1 ∨ 64 < L ∨ 65536 < W
  · exact refChunks_out W L w ho
  · have := refChunks_in W L w (by omega) (by omega) (by omega)
    rwa [show rN W L = 0 from if_neg (by simp [h])] at this

set_option maxHeartbeats 400000 in
theorem refRight_t (W L : Int) (w : World) (h : gOk W L = true) :
    Calls Try.prog 10 #[.agg #[.int .i64 W, .int .i64 L]] w fun e w' => e = .returned (.bool true) ∧ Below w.heap.size w w' := by
  obtain ⟨n1, n2, n3, n4⟩ := gN_bd h
  have H := Lib.hid h
  clear h
  go_enter Try.func10, Try.ntmps10
  go_wp2_with fail
  refine (refChunks_t W L _ H.out).mono ?_
  rintro e w1 ⟨rfl, hb⟩
  go_wp2_with fail
  go_ret
  exact ⟨rfl, ((Below.refl _ _).alloc (Nat.le_refl _) _).trans (hb.mono (by simp))⟩

set_option maxHeartbeats 400000 in
theorem refRight_f (W L : Int) (w : World) (h : gOk W L = false) :
    Calls Try.prog 10 #[.agg #[.int .i64 W, .int .i64 L]] w fun e w' => e = .returned (.bool false) ∧ Below w.heap.size w w' := by
  have H := Lib.hid h
  clear h
  go_enter Try.func10, Try.ntmps10
  go_wp2_with fail
  refine (refChunks_f W L _ H.out).mono ?_
  rintro e w1 ⟨rfl, hb⟩
  go_wp2_with fail
  go_ret
  exact ⟨rfl, ((Below.refl _ _).alloc (Nat.le_refl _) _).trans (hb.mono (by simp))⟩

set_option maxHeartbeats 400000 in
theorem refMark_yes (W L i : Int) (w : World) (h : gOk W L = true) (hi : 0 ≤ i) (hi2 : i < L) :
    Calls Try.prog 14 #[.agg #[.int .i64 W, .int .i64 L], .int .i64 i] w fun e w' => e = .returned (.int .i64 (10 + i)) ∧ Below w.heap.size w w' := by
  obtain ⟨h1, h2, h3, h4⟩ := gOk_t h
  have H := Lib.hid h
  clear h
  go_enter Try.func14, Try.ntmps14
  go_wp2_with fail
  refine (refRight_t W L _ H.out).mono ?_
  rintro e w1 ⟨rfl, hb⟩
  have j1 := (C2.new w (.int .i64 W) (.int .i64 L) 23).keep hb
  obtain ⟨d0, d1⟩ := id j1
  go_wp2_with fail
  go_ret
  exact ⟨rfl, ((Below.refl _ _).alloc (Nat.le_refl _) _).trans (hb.mono (by simp))⟩

set_option maxHeartbeats 400000 in
theorem refMark_neg (W L i : Int) (w : World) (h : gOk W L = true) (hi : i < 0) :
    Calls Try.prog 14 #[.agg #[.int .i64 W, .int .i64 L], .int .i64 i] w fun e w' => e = .returned (.int .i64 (-1)) ∧ Below w.heap.size w w' := by
  obtain ⟨h1, h2, h3, h4⟩ := gOk_t h
  have H := Lib.hid h
  clear h
  go_enter Try.func14, Try.ntmps14
  go_wp2_with fail
  refine (refRight_t W L _ H.out).mono ?_
  rintro e w1 ⟨rfl, hb⟩
  have j1 := (C2.new w (.int .i64 W) (.int .i64 L) 23).keep hb
  obtain ⟨d0, d1⟩ := id j1
  go_wp2_with fail
  go_ret
  exact ⟨rfl, ((Below.refl _ _).alloc (Nat.le_refl _) _).trans (hb.mono (by simp))⟩

set_option maxHeartbeats 400000 in
theorem refMark_big (W L i : Int) (w : World) (h : gOk W L = true) (hi : 0 ≤ i) (hi2 : L ≤ i) :
    Calls Try.prog 14 #[.agg #[.int .i64 W, .int .i64 L], .int .i64 i] w fun e w' => e = .returned (.int .i64 (-1)) ∧ Below w.heap.size w w' := by
  obtain ⟨h1, h2, h3, h4⟩ := gOk_t h
  have H := Lib.hid h
  clear h
  go_enter Try.func14, Try.ntmps14
  go_wp2_with fail
  refine (refRight_t W L _ H.out).mono ?_
  rintro e w1 ⟨rfl, hb⟩
  have j1 := (C2.new w (.int .i64 W) (.int .i64 L) 23).keep hb
  obtain ⟨d0, d1⟩ := id j1
  go_wp2_with fail
  go_ret
  exact ⟨rfl, ((Below.refl _ _).alloc (Nat.le_refl _) _).trans (hb.mono (by simp))⟩

set_option maxHeartbeats 400000 in
theorem refMark_ff (W L i : Int) (w : World) (h : gOk W L = false)  :
    Calls Try.prog 14 #[.agg #[.int .i64 W, .int .i64 L], .int .i64 i] w fun e w' => e = .returned (.int .i64 (-1)) ∧ Below w.heap.size w w' := by
  have H := Lib.hid h
  clear h
  go_enter Try.func14, Try.ntmps14
  go_wp2_with fail
  refine (refRight_f W L _ H.out).mono ?_
  rintro e w1 ⟨rfl, hb⟩
  have j1 := (C2.new w (.int .i64 W) (.int .i64 L) 23).keep hb
  obtain ⟨d0, d1⟩ := id j1
  go_wp2_with fail
  go_ret
  exact ⟨rfl, ((Below.refl _ _).alloc (Nat.le_refl _) _).trans (hb.mono (by simp))⟩

theorem refMark_t (W L i : Int) (w : World) (h : lOk W L i = true) :
    Calls Try.prog 14 #[.agg #[.int .i64 W, .int .i64 L], .int .i64 i] w fun e w' => e = .returned (.int .i64 (10 + i)) ∧ Below w.heap.size w w' := refMark_yes W L i w (lOk_t h).1 (lOk_t h).2.1 (lOk_t h).2.2
theorem refMark_f (W L i : Int) (w : World) (h : lOk W L i = false) :
    Calls Try.prog 14 #[.agg #[.int .i64 W, .int .i64 L], .int .i64 i] w fun e w' => e = .returned (.int .i64 (-1)) ∧ Below w.heap.size w w' := by
  rcases lOk_f h with h | ⟨h, hi⟩ | ⟨h, hi, hi2⟩
  · exact refMark_ff W L i w h
  · exact refMark_neg W L i w h hi
  · exact refMark_big W L i w h hi hi2

set_option maxHeartbeats 400000 in
theorem refLog_yes (W L i : Int) (w : World) (h : gOk W L = true) (hi : 0 ≤ i) (hi2 : i < L) :
    Calls Try.prog 16 #[.agg #[.int .i64 W, .int .i64 L], .int .i64 i] w fun e w' => e = .returned (.agg #[.int .i64 (10 + L + i * 72), .int .i64 32]) ∧ Below w.heap.size w w' := by
  obtain ⟨h1, h2, h3, h4⟩ := gOk_t h
  have H := Lib.hid h
  clear h
  go_enter Try.func16, Try.ntmps16
  go_wp2_with fail
  refine (refRight_t W L _ H.out).mono ?_
  rintro e w1 ⟨rfl, hb⟩
  have k1 := (C2.new (w.alloc (.cells #[.int .i64 W, .int .i64 L] 23)) (.int .i64 0) (.int .i64 0) 29).keep hb
  have j1 := ((C2.new w (.int .i64 W) (.int .i64 L) 23).alloc (.cells #[.int .i64 0, .int .i64 0] 29)).keep hb
  have f1 := (F2.new (w.alloc (.cells #[.int .i64 W, .int .i64 L] 23)) (.int .i64 0) (.int .i64 0) 29).keep (by simp) hb
  simp only [World.size_alloc] at k1 f1
  have hB : Below w.heap.size w w1 := (((Below.refl _ _).alloc (Nat.le_refl _) _).alloc (by simp) _).trans (hb.mono (by simp; omega))
  have lt1 := k1.lt
  obtain ⟨c0, c1⟩ := id k1
  obtain ⟨d0, d1⟩ := id j1
  obtain ⟨g0, g1⟩ := id f1
  go_wp2_with fail
  refine bodyPost_ret (v := .agg #[.int .i64 (10 + L + i * 72), .int .i64 32]) (by simp [results, Try.results16, go_sem, c0, c1]; try omega) rfl ⟨rfl, ?_⟩
  go_grown

set_option maxHeartbeats 400000 in
theorem refLog_neg (W L i : Int) (w : World) (h : gOk W L = true) (hi : i < 0) :
    Calls Try.prog 16 #[.agg #[.int .i64 W, .int .i64 L], .int .i64 i] w fun e w' => e = .returned (.agg #[.int .i64 0, .int .i64 0]) ∧ Below w.heap.size w w' := by
  obtain ⟨h1, h2, h3, h4⟩ := gOk_t h
  have H := Lib.hid h
  clear h
  go_enter Try.func16, Try.ntmps16
  go_wp2_with fail
  refine (refRight_t W L _ H.out).mono ?_
  rintro e w1 ⟨rfl, hb⟩
  have k1 := (C2.new (w.alloc (.cells #[.int .i64 W, .int .i64 L] 23)) (.int .i64 0) (.int .i64 0) 29).keep hb
  have j1 := ((C2.new w (.int .i64 W) (.int .i64 L) 23).alloc (.cells #[.int .i64 0, .int .i64 0] 29)).keep hb
  have f1 := (F2.new (w.alloc (.cells #[.int .i64 W, .int .i64 L] 23)) (.int .i64 0) (.int .i64 0) 29).keep (by simp) hb
  simp only [World.size_alloc] at k1 f1
  have hB : Below w.heap.size w w1 := (((Below.refl _ _).alloc (Nat.le_refl _) _).alloc (by simp) _).trans (hb.mono (by simp; omega))
  have lt1 := k1.lt
  obtain ⟨c0, c1⟩ := id k1
  obtain ⟨d0, d1⟩ := id j1
  obtain ⟨g0, g1⟩ := id f1
  go_wp2_with fail
  refine bodyPost_ret (v := .agg #[.int .i64 0, .int .i64 0]) (by simp [results, Try.results16, go_sem, c0, c1]; try omega) rfl ⟨rfl, ?_⟩
  go_grown

set_option maxHeartbeats 400000 in
theorem refLog_big (W L i : Int) (w : World) (h : gOk W L = true) (hi : 0 ≤ i) (hi2 : L ≤ i) :
    Calls Try.prog 16 #[.agg #[.int .i64 W, .int .i64 L], .int .i64 i] w fun e w' => e = .returned (.agg #[.int .i64 0, .int .i64 0]) ∧ Below w.heap.size w w' := by
  obtain ⟨h1, h2, h3, h4⟩ := gOk_t h
  have H := Lib.hid h
  clear h
  go_enter Try.func16, Try.ntmps16
  go_wp2_with fail
  refine (refRight_t W L _ H.out).mono ?_
  rintro e w1 ⟨rfl, hb⟩
  have k1 := (C2.new (w.alloc (.cells #[.int .i64 W, .int .i64 L] 23)) (.int .i64 0) (.int .i64 0) 29).keep hb
  have j1 := ((C2.new w (.int .i64 W) (.int .i64 L) 23).alloc (.cells #[.int .i64 0, .int .i64 0] 29)).keep hb
  have f1 := (F2.new (w.alloc (.cells #[.int .i64 W, .int .i64 L] 23)) (.int .i64 0) (.int .i64 0) 29).keep (by simp) hb
  simp only [World.size_alloc] at k1 f1
  have hB : Below w.heap.size w w1 := (((Below.refl _ _).alloc (Nat.le_refl _) _).alloc (by simp) _).trans (hb.mono (by simp; omega))
  have lt1 := k1.lt
  obtain ⟨c0, c1⟩ := id k1
  obtain ⟨d0, d1⟩ := id j1
  obtain ⟨g0, g1⟩ := id f1
  go_wp2_with fail
  refine bodyPost_ret (v := .agg #[.int .i64 0, .int .i64 0]) (by simp [results, Try.results16, go_sem, c0, c1]; try omega) rfl ⟨rfl, ?_⟩
  go_grown

set_option maxHeartbeats 400000 in
theorem refLog_ff (W L i : Int) (w : World) (h : gOk W L = false)  :
    Calls Try.prog 16 #[.agg #[.int .i64 W, .int .i64 L], .int .i64 i] w fun e w' => e = .returned (.agg #[.int .i64 0, .int .i64 0]) ∧ Below w.heap.size w w' := by
  have H := Lib.hid h
  clear h
  go_enter Try.func16, Try.ntmps16
  go_wp2_with fail
  refine (refRight_f W L _ H.out).mono ?_
  rintro e w1 ⟨rfl, hb⟩
  have k1 := (C2.new (w.alloc (.cells #[.int .i64 W, .int .i64 L] 23)) (.int .i64 0) (.int .i64 0) 29).keep hb
  have j1 := ((C2.new w (.int .i64 W) (.int .i64 L) 23).alloc (.cells #[.int .i64 0, .int .i64 0] 29)).keep hb
  have f1 := (F2.new (w.alloc (.cells #[.int .i64 W, .int .i64 L] 23)) (.int .i64 0) (.int .i64 0) 29).keep (by simp) hb
  simp only [World.size_alloc] at k1 f1
  have hB : Below w.heap.size w w1 := (((Below.refl _ _).alloc (Nat.le_refl _) _).alloc (by simp) _).trans (hb.mono (by simp; omega))
  have lt1 := k1.lt
  obtain ⟨c0, c1⟩ := id k1
  obtain ⟨d0, d1⟩ := id j1
  obtain ⟨g0, g1⟩ := id f1
  go_wp2_with fail
  refine bodyPost_ret (v := .agg #[.int .i64 0, .int .i64 0]) (by simp [results, Try.results16, go_sem, c0, c1]; try omega) rfl ⟨rfl, ?_⟩
  go_grown

theorem refLog_t (W L i : Int) (w : World) (h : lOk W L i = true) :
    Calls Try.prog 16 #[.agg #[.int .i64 W, .int .i64 L], .int .i64 i] w fun e w' => e = .returned (.agg #[.int .i64 (10 + L + i * 72), .int .i64 32]) ∧ Below w.heap.size w w' := refLog_yes W L i w (lOk_t h).1 (lOk_t h).2.1 (lOk_t h).2.2
theorem refLog_f (W L i : Int) (w : World) (h : lOk W L i = false) :
    Calls Try.prog 16 #[.agg #[.int .i64 W, .int .i64 L], .int .i64 i] w fun e w' => e = .returned (.agg #[.int .i64 0, .int .i64 0]) ∧ Below w.heap.size w w' := by
  rcases lOk_f h with h | ⟨h, hi⟩ | ⟨h, hi, hi2⟩
  · exact refLog_ff W L i w h
  · exact refLog_neg W L i w h hi
  · exact refLog_big W L i w h hi hi2

set_option maxHeartbeats 400000 in
theorem refRedo_yes (W L i : Int) (w : World) (h : gOk W L = true) (hi : 0 ≤ i) (hi2 : i < L) :
    Calls Try.prog 18 #[.agg #[.int .i64 W, .int .i64 L], .int .i64 i] w fun e w' => e = .returned (.agg #[.int .i64 (10 + L + i * 72 + 32), .int .i64 40]) ∧ Below w.heap.size w w' := by
  obtain ⟨h1, h2, h3, h4⟩ := gOk_t h
  have H := Lib.hid h
  clear h
  go_enter Try.func18, Try.ntmps18
  go_wp2_with fail
  refine (refRight_t W L _ H.out).mono ?_
  rintro e w1 ⟨rfl, hb⟩
  have k1 := (C2.new (w.alloc (.cells #[.int .i64 W, .int .i64 L] 23)) (.int .i64 0) (.int .i64 0) 29).keep hb
  have j1 := ((C2.new w (.int .i64 W) (.int .i64 L) 23).alloc (.cells #[.int .i64 0, .int .i64 0] 29)).keep hb
  have f1 := (F2.new (w.alloc (.cells #[.int .i64 W, .int .i64 L] 23)) (.int .i64 0) (.int .i64 0) 29).keep (by simp) hb
  simp only [World.size_alloc] at k1 f1
  have hB : Below w.heap.size w w1 := (((Below.refl _ _).alloc (Nat.le_refl _) _).alloc (by simp) _).trans (hb.mono (by simp; omega))
  have lt1 := k1.lt
  obtain ⟨c0, c1⟩ := id k1
  obtain ⟨d0, d1⟩ := id j1
  obtain ⟨g0, g1⟩ := id f1
  go_wp2_with fail
  refine bodyPost_ret (v := .agg #[.int .i64 (10 + L + i * 72 + 32), .int .i64 40]) (by simp [results, Try.results18, go_sem, c0, c1]; try omega) rfl ⟨rfl, ?_⟩
  go_grown

set_option maxHeartbeats 400000 in
theorem refRedo_neg (W L i : Int) (w : World) (h : gOk W L = true) (hi : i < 0) :
    Calls Try.prog 18 #[.agg #[.int .i64 W, .int .i64 L], .int .i64 i] w fun e w' => e = .returned (.agg #[.int .i64 0, .int .i64 0]) ∧ Below w.heap.size w w' := by
  obtain ⟨h1, h2, h3, h4⟩ := gOk_t h
  have H := Lib.hid h
  clear h
  go_enter Try.func18, Try.ntmps18
  go_wp2_with fail
  refine (refRight_t W L _ H.out).mono ?_
  rintro e w1 ⟨rfl, hb⟩
  have k1 := (C2.new (w.alloc (.cells #[.int .i64 W, .int .i64 L] 23)) (.int .i64 0) (.int .i64 0) 29).keep hb
  have j1 := ((C2.new w (.int .i64 W) (.int .i64 L) 23).alloc (.cells #[.int .i64 0, .int .i64 0] 29)).keep hb
  have f1 := (F2.new (w.alloc (.cells #[.int .i64 W, .int .i64 L] 23)) (.int .i64 0) (.int .i64 0) 29).keep (by simp) hb
  simp only [World.size_alloc] at k1 f1
  have hB : Below w.heap.size w w1 := (((Below.refl _ _).alloc (Nat.le_refl _) _).alloc (by simp) _).trans (hb.mono (by simp; omega))
  have lt1 := k1.lt
  obtain ⟨c0, c1⟩ := id k1
  obtain ⟨d0, d1⟩ := id j1
  obtain ⟨g0, g1⟩ := id f1
  go_wp2_with fail
  refine bodyPost_ret (v := .agg #[.int .i64 0, .int .i64 0]) (by simp [results, Try.results18, go_sem, c0, c1]; try omega) rfl ⟨rfl, ?_⟩
  go_grown

set_option maxHeartbeats 400000 in
theorem refRedo_big (W L i : Int) (w : World) (h : gOk W L = true) (hi : 0 ≤ i) (hi2 : L ≤ i) :
    Calls Try.prog 18 #[.agg #[.int .i64 W, .int .i64 L], .int .i64 i] w fun e w' => e = .returned (.agg #[.int .i64 0, .int .i64 0]) ∧ Below w.heap.size w w' := by
  obtain ⟨h1, h2, h3, h4⟩ := gOk_t h
  have H := Lib.hid h
  clear h
  go_enter Try.func18, Try.ntmps18
  go_wp2_with fail
  refine (refRight_t W L _ H.out).mono ?_
  rintro e w1 ⟨rfl, hb⟩
  have k1 := (C2.new (w.alloc (.cells #[.int .i64 W, .int .i64 L] 23)) (.int .i64 0) (.int .i64 0) 29).keep hb
  have j1 := ((C2.new w (.int .i64 W) (.int .i64 L) 23).alloc (.cells #[.int .i64 0, .int .i64 0] 29)).keep hb
  have f1 := (F2.new (w.alloc (.cells #[.int .i64 W, .int .i64 L] 23)) (.int .i64 0) (.int .i64 0) 29).keep (by simp) hb
  simp only [World.size_alloc] at k1 f1
  have hB : Below w.heap.size w w1 := (((Below.refl _ _).alloc (Nat.le_refl _) _).alloc (by simp) _).trans (hb.mono (by simp; omega))
  have lt1 := k1.lt
  obtain ⟨c0, c1⟩ := id k1
  obtain ⟨d0, d1⟩ := id j1
  obtain ⟨g0, g1⟩ := id f1
  go_wp2_with fail
  refine bodyPost_ret (v := .agg #[.int .i64 0, .int .i64 0]) (by simp [results, Try.results18, go_sem, c0, c1]; try omega) rfl ⟨rfl, ?_⟩
  go_grown

set_option maxHeartbeats 400000 in
theorem refRedo_ff (W L i : Int) (w : World) (h : gOk W L = false)  :
    Calls Try.prog 18 #[.agg #[.int .i64 W, .int .i64 L], .int .i64 i] w fun e w' => e = .returned (.agg #[.int .i64 0, .int .i64 0]) ∧ Below w.heap.size w w' := by
  have H := Lib.hid h
  clear h
  go_enter Try.func18, Try.ntmps18
  go_wp2_with fail
  refine (refRight_f W L _ H.out).mono ?_
  rintro e w1 ⟨rfl, hb⟩
  have k1 := (C2.new (w.alloc (.cells #[.int .i64 W, .int .i64 L] 23)) (.int .i64 0) (.int .i64 0) 29).keep hb
  have j1 := ((C2.new w (.int .i64 W) (.int .i64 L) 23).alloc (.cells #[.int .i64 0, .int .i64 0] 29)).keep hb
  have f1 := (F2.new (w.alloc (.cells #[.int .i64 W, .int .i64 L] 23)) (.int .i64 0) (.int .i64 0) 29).keep (by simp) hb
  simp only [World.size_alloc] at k1 f1
  have hB : Below w.heap.size w w1 := (((Below.refl _ _).alloc (Nat.le_refl _) _).alloc (by simp) _).trans (hb.mono (by simp; omega))
  have lt1 := k1.lt
  obtain ⟨c0, c1⟩ := id k1
  obtain ⟨d0, d1⟩ := id j1
  obtain ⟨g0, g1⟩ := id f1
  go_wp2_with fail
  refine bodyPost_ret (v := .agg #[.int .i64 0, .int .i64 0]) (by simp [results, Try.results18, go_sem, c0, c1]; try omega) rfl ⟨rfl, ?_⟩
  go_grown

theorem refRedo_t (W L i : Int) (w : World) (h : lOk W L i = true) :
    Calls Try.prog 18 #[.agg #[.int .i64 W, .int .i64 L], .int .i64 i] w fun e w' => e = .returned (.agg #[.int .i64 (10 + L + i * 72 + 32), .int .i64 40]) ∧ Below w.heap.size w w' := refRedo_yes W L i w (lOk_t h).1 (lOk_t h).2.1 (lOk_t h).2.2
theorem refRedo_f (W L i : Int) (w : World) (h : lOk W L i = false) :
    Calls Try.prog 18 #[.agg #[.int .i64 W, .int .i64 L], .int .i64 i] w fun e w' => e = .returned (.agg #[.int .i64 0, .int .i64 0]) ∧ Below w.heap.size w w' := by
  rcases lOk_f h with h | ⟨h, hi⟩ | ⟨h, hi, hi2⟩
  · exact refRedo_ff W L i w h
  · exact refRedo_neg W L i w h hi
  · exact refRedo_big W L i w h hi hi2

end Go.Proofs.Ytalplklaepbaeaa
