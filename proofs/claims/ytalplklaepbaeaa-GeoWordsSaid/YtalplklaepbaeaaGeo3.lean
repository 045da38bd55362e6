/-
  What the calls of package geo answer: contracts on the calls (3).
-/
import Derived.Test.YtalplklaepbaeaaGeo2
namespace Go.Proofs.Ytalplklaepbaeaa
open Go.RowKit

theorem ret_ii {a b c d : Int} (h : a = b) (h' : c = d) : Ending.returned (.tuple #[.int .i64 a, .int .i64 c]) = .returned (.tuple #[.int .i64 b, .int .i64 d]) := by rw [h, h']
theorem ret_g {a b c d : Int} (h : a = b) (h' : c = d) : Ending.returned (.agg #[.int .i64 a, .int .i64 c]) = .returned (.agg #[.int .i64 b, .int .i64 d]) := by rw [h, h']
theorem field1 (x y : Int) (w : World) : (Instr.field 29 (.agg #[.int .i64 x, .int .i64 y]) 1).run Try.prog w = .ok (.int .i64 y) w := by kernel_rfl
theorem field0 (x y : Int) (w : World) : (Instr.field 29 (.agg #[.int .i64 x, .int .i64 y]) 0).run Try.prog w = .ok (.int .i64 x) w := by kernel_rfl

set_option maxHeartbeats 400000 in
theorem chunks_t (W L : Int) (w : World) (h : gOk W L = true) :
    Calls Try.prog 11 #[.agg #[.int .i64 W, .int .i64 L]] w fun e w' => e = .returned (.int .i64 (gN W L)) ∧ Below w.heap.size w w' := by
  have H := Lib.hid h
  clear h
  have hfd := field1
  go_enter Try.func11, Try.ntmps11
  go_wp2_with fail
  refine (table_t W L _ H.out).mono ?_
  rintro e w1 ⟨rfl, hb⟩
  go_wp2_with fail
  go_ret
  exact ⟨rfl, ((Below.refl _ _).alloc (Nat.le_refl _) _).trans (hb.mono (by simp))⟩

set_option maxHeartbeats 400000 in
theorem chunks_f (W L : Int) (w : World) (h : gOk W L = false) :
    Calls Try.prog 11 #[.agg #[.int .i64 W, .int .i64 L]] w fun e w' => e = .returned (.int .i64 (0)) ∧ Below w.heap.size w w' := by
  have H := Lib.hid h
  clear h
  have hfd := field1
  go_enter Try.func11, Try.ntmps11
  go_wp2_with fail
  refine (table_f W L _ H.out).mono ?_
  rintro e w1 ⟨rfl, hb⟩
  go_wp2_with fail
  go_ret
  exact ⟨rfl, ((Below.refl _ _).alloc (Nat.le_refl _) _).trans (hb.mono (by simp))⟩

/-- a chunk that there is: its span -/
def cFrom (W L i : Int) : Int := 10 + 73 * L + gN W L + i * 32

set_option maxHeartbeats 400000 in
theorem chunk_yes (W L i : Int) (w : World) (h : gOk W L = true) (hi : 0 ≤ i) (hi2 : i < gN W L) :
    Calls Try.prog 21 #[.agg #[.int .i64 W, .int .i64 L], .int .i64 i] w fun e w' => e = .returned (.agg #[.int .i64 (cFrom W L i), .int .i64 32]) ∧ Below w.heap.size w w' := by
  obtain ⟨n1, n2, n3, n4⟩ := gN_bd h
  obtain ⟨h1, h2, h3, h4⟩ := gOk_t h
  have H := Lib.hid h
  clear h
  go_enter Try.func21, Try.ntmps21
  go_wp2_with fail
  refine (table_t W L _ H.out).mono ?_
  rintro e w1 ⟨rfl, hb⟩
  have k1 := (C2.new (w.alloc (.cells #[.int .i64 W, .int .i64 L] 23)) (.int .i64 0) (.int .i64 0) 29).keep hb
  have f1 := (F2.new (w.alloc (.cells #[.int .i64 W, .int .i64 L] 23)) (.int .i64 0) (.int .i64 0) 29).keep (by simp) hb
  simp only [World.size_alloc] at k1 f1
  have lt1 := k1.lt
  obtain ⟨c0, c1⟩ := id k1
  obtain ⟨g0, g1⟩ := id f1
  have hB : Below w.heap.size w w1 := (((Below.refl _ _).alloc (Nat.le_refl _) _).alloc (by simp) _).trans (hb.mono (by simp; omega))
  go_wp2_with fail
  refine bodyPost_ret (v := .agg #[.int .i64 (cFrom W L i), .int .i64 32]) (by simp [results, Try.results21, go_sem, c0, c1, lt1, cFrom]) rfl ⟨rfl, ?_⟩
  go_grown

set_option maxHeartbeats 400000 in
theorem chunk_neg (W L i : Int) (w : World) (h : gOk W L = true) (hi : i < 0) :
    Calls Try.prog 21 #[.agg #[.int .i64 W, .int .i64 L], .int .i64 i] w fun e w' => e = .returned (.agg #[.int .i64 0, .int .i64 0]) ∧ Below w.heap.size w w' := by
  obtain ⟨n1, n2, n3, n4⟩ := gN_bd h
  obtain ⟨h1, h2, h3, h4⟩ := gOk_t h
  have H := Lib.hid h
  clear h
  go_enter Try.func21, Try.ntmps21
  go_wp2_with fail
  refine (table_t W L _ H.out).mono ?_
  rintro e w1 ⟨rfl, hb⟩
  have k1 := (C2.new (w.alloc (.cells #[.int .i64 W, .int .i64 L] 23)) (.int .i64 0) (.int .i64 0) 29).keep hb
  have f1 := (F2.new (w.alloc (.cells #[.int .i64 W, .int .i64 L] 23)) (.int .i64 0) (.int .i64 0) 29).keep (by simp) hb
  simp only [World.size_alloc] at k1 f1
  have lt1 := k1.lt
  obtain ⟨c0, c1⟩ := id k1
  obtain ⟨g0, g1⟩ := id f1
  have hB : Below w.heap.size w w1 := (((Below.refl _ _).alloc (Nat.le_refl _) _).alloc (by simp) _).trans (hb.mono (by simp; omega))
  go_wp2_with fail
  refine bodyPost_ret (v := .agg #[.int .i64 0, .int .i64 0]) (by simp [results, Try.results21, go_sem, c0, c1, lt1]) rfl ⟨rfl, ?_⟩
  go_grown

set_option maxHeartbeats 400000 in
theorem chunk_big (W L i : Int) (w : World) (h : gOk W L = true) (hi : 0 ≤ i) (hi2 : gN W L ≤ i) :
    Calls Try.prog 21 #[.agg #[.int .i64 W, .int .i64 L], .int .i64 i] w fun e w' => e = .returned (.agg #[.int .i64 0, .int .i64 0]) ∧ Below w.heap.size w w' := by
  obtain ⟨n1, n2, n3, n4⟩ := gN_bd h
  obtain ⟨h1, h2, h3, h4⟩ := gOk_t h
  have H := Lib.hid h
  clear h
  go_enter Try.func21, Try.ntmps21
  go_wp2_with fail
  refine (table_t W L _ H.out).mono ?_
  rintro e w1 ⟨rfl, hb⟩
  have k1 := (C2.new (w.alloc (.cells #[.int .i64 W, .int .i64 L] 23)) (.int .i64 0) (.int .i64 0) 29).keep hb
  have f1 := (F2.new (w.alloc (.cells #[.int .i64 W, .int .i64 L] 23)) (.int .i64 0) (.int .i64 0) 29).keep (by simp) hb
  simp only [World.size_alloc] at k1 f1
  have lt1 := k1.lt
  obtain ⟨c0, c1⟩ := id k1
  obtain ⟨g0, g1⟩ := id f1
  have hB : Below w.heap.size w w1 := (((Below.refl _ _).alloc (Nat.le_refl _) _).alloc (by simp) _).trans (hb.mono (by simp; omega))
  go_wp2_with fail
  refine bodyPost_ret (v := .agg #[.int .i64 0, .int .i64 0]) (by simp [results, Try.results21, go_sem, c0, c1, lt1]) rfl ⟨rfl, ?_⟩
  go_grown

set_option maxHeartbeats 400000 in
theorem chunk_fneg (W L i : Int) (w : World) (h : gOk W L = false) (hi : i < 0) :
    Calls Try.prog 21 #[.agg #[.int .i64 W, .int .i64 L], .int .i64 i] w fun e w' => e = .returned (.agg #[.int .i64 0, .int .i64 0]) ∧ Below w.heap.size w w' := by
  have H := Lib.hid h
  clear h
  go_enter Try.func21, Try.ntmps21
  go_wp2_with fail
  refine (table_f W L _ H.out).mono ?_
  rintro e w1 ⟨rfl, hb⟩
  have k1 := (C2.new (w.alloc (.cells #[.int .i64 W, .int .i64 L] 23)) (.int .i64 0) (.int .i64 0) 29).keep hb
  have f1 := (F2.new (w.alloc (.cells #[.int .i64 W, .int .i64 L] 23)) (.int .i64 0) (.int .i64 0) 29).keep (by simp) hb
  simp only [World.size_alloc] at k1 f1
  have lt1 := k1.lt
  obtain ⟨c0, c1⟩ := id k1
  obtain ⟨g0, g1⟩ := id f1
  have hB : Below w.heap.size w w1 := (((Below.refl _ _).alloc (Nat.le_refl _) _).alloc (by simp) _).trans (hb.mono (by simp; omega))
  go_wp2_with fail
  refine bodyPost_ret (v := .agg #[.int .i64 0, .int .i64 0]) (by simp [results, Try.results21, go_sem, c0, c1, lt1]) rfl ⟨rfl, ?_⟩
  go_grown

set_option maxHeartbeats 400000 in
theorem chunk_fpos (W L i : Int) (w : World) (h : gOk W L = false) (hi : 0 ≤ i) :
    Calls Try.prog 21 #[.agg #[.int .i64 W, .int .i64 L], .int .i64 i] w fun e w' => e = .returned (.agg #[.int .i64 0, .int .i64 0]) ∧ Below w.heap.size w w' := by
  have H := Lib.hid h
  clear h
  go_enter Try.func21, Try.ntmps21
  go_wp2_with fail
  refine (table_f W L _ H.out).mono ?_
  rintro e w1 ⟨rfl, hb⟩
  have k1 := (C2.new (w.alloc (.cells #[.int .i64 W, .int .i64 L] 23)) (.int .i64 0) (.int .i64 0) 29).keep hb
  have f1 := (F2.new (w.alloc (.cells #[.int .i64 W, .int .i64 L] 23)) (.int .i64 0) (.int .i64 0) 29).keep (by simp) hb
  simp only [World.size_alloc] at k1 f1
  have lt1 := k1.lt
  obtain ⟨c0, c1⟩ := id k1
  obtain ⟨g0, g1⟩ := id f1
  have hB : Below w.heap.size w w1 := (((Below.refl _ _).alloc (Nat.le_refl _) _).alloc (by simp) _).trans (hb.mono (by simp; omega))
  go_wp2_with fail
  refine bodyPost_ret (v := .agg #[.int .i64 0, .int .i64 0]) (by simp [results, Try.results21, go_sem, c0, c1, lt1]) rfl ⟨rfl, ?_⟩
  go_grown

set_option maxHeartbeats 400000 in
theorem of_yes (W L i : Int) (w : World) (h : gOk W L = true) (hi : cFrom W L 0 ≤ i) (hi2 : i < cFrom W L (gN W L)) :
    Calls Try.prog 23 #[.agg #[.int .i64 W, .int .i64 L], .int .i64 i] w fun e w' => e = .returned (.tuple #[.int .i64 ((i - cFrom W L 0) / 32), .int .i64 ((i - cFrom W L 0) % 32)]) ∧ Below w.heap.size w w' := by
  obtain ⟨n1, n2, n3, n4⟩ := gN_bd h
  obtain ⟨h1, h2, h3, h4⟩ := gOk_t h
  unfold cFrom at hi hi2 ⊢
  have H := Lib.hid h
  clear h
  go_enter Try.func23, Try.ntmps23
  go_wp2_with fail
  refine (table_t W L _ H.out).mono ?_
  rintro e w1 ⟨rfl, hb⟩
  have hz1 : w.heap.size < w1.heap.size := by have := hb.size; simp at this; omega
  have hB : Below w.heap.size w w1 := ((Below.refl _ _).alloc (Nat.le_refl _) _).trans (hb.mono (by simp))
  go_wp2_with fail
  go_ret2
  exact ⟨ret_ii (by omega) (by omega), hB.alloc (by omega) _⟩

set_option maxHeartbeats 400000 in
theorem of_low (W L i : Int) (w : World) (h : gOk W L = true) (hi : i < cFrom W L 0) :
    Calls Try.prog 23 #[.agg #[.int .i64 W, .int .i64 L], .int .i64 i] w fun e w' => e = .returned (.tuple #[.int .i64 (-1), .int .i64 (-1)]) ∧ Below w.heap.size w w' := by
  obtain ⟨n1, n2, n3, n4⟩ := gN_bd h
  obtain ⟨h1, h2, h3, h4⟩ := gOk_t h
  unfold cFrom at hi
  have H := Lib.hid h
  clear h
  go_enter Try.func23, Try.ntmps23
  go_wp2_with fail
  refine (table_t W L _ H.out).mono ?_
  rintro e w1 ⟨rfl, hb⟩
  have hz1 : w.heap.size < w1.heap.size := by have := hb.size; simp at this; omega
  have hB : Below w.heap.size w w1 := ((Below.refl _ _).alloc (Nat.le_refl _) _).trans (hb.mono (by simp))
  go_wp2_with fail
  go_ret2
  exact ⟨ret_ii (by omega) (by omega), hB.alloc (by omega) _⟩

set_option maxHeartbeats 400000 in
theorem of_high (W L i : Int) (w : World) (h : gOk W L = true) (hi : cFrom W L 0 ≤ i) (hi2 : cFrom W L (gN W L) ≤ i) :
    Calls Try.prog 23 #[.agg #[.int .i64 W, .int .i64 L], .int .i64 i] w fun e w' => e = .returned (.tuple #[.int .i64 (-1), .int .i64 (-1)]) ∧ Below w.heap.size w w' := by
  obtain ⟨n1, n2, n3, n4⟩ := gN_bd h
  obtain ⟨h1, h2, h3, h4⟩ := gOk_t h
  unfold cFrom at hi hi2
  have H := Lib.hid h
  clear h
  go_enter Try.func23, Try.ntmps23
  go_wp2_with fail
  refine (table_t W L _ H.out).mono ?_
  rintro e w1 ⟨rfl, hb⟩
  have hz1 : w.heap.size < w1.heap.size := by have := hb.size; simp at this; omega
  have hB : Below w.heap.size w w1 := ((Below.refl _ _).alloc (Nat.le_refl _) _).trans (hb.mono (by simp))
  go_wp2_with fail
  go_ret2
  exact ⟨ret_ii (by omega) (by omega), hB.alloc (by omega) _⟩

set_option maxHeartbeats 400000 in
theorem of_fneg (W L i : Int) (w : World) (h : gOk W L = false) (hi : i < 0) :
    Calls Try.prog 23 #[.agg #[.int .i64 W, .int .i64 L], .int .i64 i] w fun e w' => e = .returned (.tuple #[.int .i64 (-1), .int .i64 (-1)]) ∧ Below w.heap.size w w' := by
  have H := Lib.hid h
  clear h
  go_enter Try.func23, Try.ntmps23
  go_wp2_with fail
  refine (table_f W L _ H.out).mono ?_
  rintro e w1 ⟨rfl, hb⟩
  have hz1 : w.heap.size < w1.heap.size := by have := hb.size; simp at this; omega
  have hB : Below w.heap.size w w1 := ((Below.refl _ _).alloc (Nat.le_refl _) _).trans (hb.mono (by simp))
  go_wp2_with fail
  go_ret2
  exact ⟨ret_ii (by omega) (by omega), hB.alloc (by omega) _⟩

set_option maxHeartbeats 400000 in
theorem of_fpos (W L i : Int) (w : World) (h : gOk W L = false) (hi : 0 ≤ i) :
    Calls Try.prog 23 #[.agg #[.int .i64 W, .int .i64 L], .int .i64 i] w fun e w' => e = .returned (.tuple #[.int .i64 (-1), .int .i64 (-1)]) ∧ Below w.heap.size w w' := by
  have H := Lib.hid h
  clear h
  go_enter Try.func23, Try.ntmps23
  go_wp2_with fail
  refine (table_f W L _ H.out).mono ?_
  rintro e w1 ⟨rfl, hb⟩
  have hz1 : w.heap.size < w1.heap.size := by have := hb.size; simp at this; omega
  have hB : Below w.heap.size w w1 := ((Below.refl _ _).alloc (Nat.le_refl _) _).trans (hb.mono (by simp))
  go_wp2_with fail
  go_ret2
  exact ⟨ret_ii (by omega) (by omega), hB.alloc (by omega) _⟩

end Go.Proofs.Ytalplklaepbaeaa
