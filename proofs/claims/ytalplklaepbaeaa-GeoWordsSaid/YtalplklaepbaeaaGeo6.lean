/-
  What the document's answers on geometries are: contracts on the calls (6).
-/
import Derived.Test.YtalplklaepbaeaaGeo5
namespace Go.Proofs.Ytalplklaepbaeaa
open Go.RowKit

set_option maxHeartbeats 400000 in
theorem refTable_f (W L : Int) (w : World) (h : gOk W L = false) :
    Calls Try.prog 20 #[.agg #[.int .i64 W, .int .i64 L]] w fun e w' => e = .returned (.agg #[.int .i64 0, .int .i64 0]) ∧ Below w.heap.size w w' := by
  have H := Lib.hid h
  clear h
  go_enter Try.func20, Try.ntmps20
  go_wp2_with fail
  refine (refRight_f W L _ H.out).mono ?_
  rintro e w1 ⟨rfl, hb⟩
  have k1 := (C2.new (w.alloc (.cells #[.int .i64 W, .int .i64 L] 23)) (.int .i64 0) (.int .i64 0) 29).keep hb
  have j1 := ((C2.new w (.int .i64 W) (.int .i64 L) 23).alloc (.cells #[.int .i64 0, .int .i64 0] 29)).keep hb
  have f1 := (F2.new (w.alloc (.cells #[.int .i64 W, .int .i64 L] 23)) (.int .i64 0) (.int .i64 0) 29).keep (by simp) hb
  simp only [World.size_alloc] at k1 f1
  have hB : Below w.heap.size w w1 := (((Below.refl _ _).alloc (Nat.le_refl _) _).alloc (by simp) _).trans (hb.mono (by simp; omega))
  have lt1 := k1.lt
  obtain ⟨c0, c1⟩ := id k1
  obtain ⟨d0, d1⟩ := id j1
  obtain ⟨g0, g1⟩ := id f1
  go_wp2_with fail
  refine bodyPost_ret (v := .agg #[.int .i64 0, .int .i64 0]) (by simp [results, Try.results20, go_sem, c0, c1]) rfl ⟨rfl, ?_⟩
  go_grown

set_option maxHeartbeats 800000 in
theorem refTable_t (W L : Int) (w : World) (h : gOk W L = true) :
    Calls Try.prog 20 #[.agg #[.int .i64 W, .int .i64 L]] w fun e w' => e = .returned (.agg #[.int .i64 (10 + 73 * L), .int .i64 (gN W L)]) ∧ Below w.heap.size w w' := by
  obtain ⟨h1, h2, _, _⟩ := gOk_t h
  have H := Lib.hid h
  clear h
  go_enter Try.func20, Try.ntmps20
  go_wp2_with fail
  refine (refRight_t W L _ H.out).mono ?_
  rintro e w1 ⟨rfl, hb⟩
  have k1 := (C2.new (w.alloc (.cells #[.int .i64 W, .int .i64 L] 23)) (.int .i64 0) (.int .i64 0) 29).keep hb
  have j1 := ((C2.new w (.int .i64 W) (.int .i64 L) 23).alloc (.cells #[.int .i64 0, .int .i64 0] 29)).keep hb
  have f1 := (F2.new (w.alloc (.cells #[.int .i64 W, .int .i64 L] 23)) (.int .i64 0) (.int .i64 0) 29).keep (by simp) hb
  simp only [World.size_alloc] at k1 f1
  have hB : Below w.heap.size w w1 := (((Below.refl _ _).alloc (Nat.le_refl _) _).alloc (by simp) _).trans (hb.mono (by simp; omega))
  have lt1 := k1.lt
  obtain ⟨c0, c1⟩ := id k1
  obtain ⟨d0, d1⟩ := id j1
  obtain ⟨g0, g1⟩ := id f1
  go_wp2_with fail
  have e1 : IntKind.i64.wrap (73 * L) = 73 * L := IntWalk.i64_in _ ⟨by omega, by omega⟩
  have e2 : IntKind.i64.wrap (10 + 73 * L) = 10 + 73 * L := IntWalk.i64_in _ ⟨by omega, by omega⟩
  go_region_with (first
    | (go_at_call 12; refine (refChunks_t W L _ H.out).mono ?_; rintro e w6 ⟨rfl, hb⟩; have BB : Below w.heap.size w w6 := hB.drew.trans (hb.mono (Nat.le_of_lt j1.drew.lt)); have jj : C2 w6 w.heap.size (.int .i64 W) (.int .i64 L) := j1.drew.keep hb; have kk : C2 w6 (w.heap.size + 1) (.int .i64 0) (.int .i64 0) := k1.drew.keep hb; have ff : F2 w6 (w.heap.size + 1) := f1.drew.keep k1.drew.lt hb; obtain ⟨d0, d1⟩ := id jj; obtain ⟨c0, c1⟩ := id kk; obtain ⟨g0, g1⟩ := id ff))
  all_goals
    go_wp2_with fail
    refine bodyPost_ret (v := .agg #[.int .i64 (10 + 73 * L), .int .i64 (gN W L)]) (by simp [results, Try.results20, go_sem, c0, c1]) rfl ⟨rfl, ?_⟩
    exact (BB.setCell (by simp) _).setCell (by simp) _

set_option maxHeartbeats 400000 in
theorem refChunk_yes (W L i : Int) (w : World) (h : gOk W L = true) (hi : 0 ≤ i) (hi2 : i < gN W L) :
    Calls Try.prog 22 #[.agg #[.int .i64 W, .int .i64 L], .int .i64 i] w fun e w' => e = .returned (.agg #[.int .i64 (cFrom W L i), .int .i64 32]) ∧ Below w.heap.size w w' := by
  obtain ⟨n1, n2, n3, n4⟩ := gN_bd h
  obtain ⟨h1, h2, h3, h4⟩ := gOk_t h
  have H := Lib.hid h
  clear h
  go_enter Try.func22, Try.ntmps22
  go_wp2_with fail
  refine (refChunks_t W L _ H.out).mono ?_
  rintro e w1 ⟨rfl, hb⟩
  have k1 := (C2.new (w.alloc (.cells #[.int .i64 W, .int .i64 L] 23)) (.int .i64 0) (.int .i64 0) 29).keep hb
  have j1 := ((C2.new w (.int .i64 W) (.int .i64 L) 23).alloc (.cells #[.int .i64 0, .int .i64 0] 29)).keep hb
  have f1 := (F2.new (w.alloc (.cells #[.int .i64 W, .int .i64 L] 23)) (.int .i64 0) (.int .i64 0) 29).keep (by simp) hb
  simp only [World.size_alloc] at k1 f1
  have hB : Below w.heap.size w w1 := (((Below.refl _ _).alloc (Nat.le_refl _) _).alloc (by simp) _).trans (hb.mono (by simp; omega))
  have lt1 := k1.lt
  obtain ⟨c0, c1⟩ := id k1
  obtain ⟨d0, d1⟩ := id j1
  obtain ⟨g0, g1⟩ := id f1
  go_wp2_with fail
  refine bodyPost_ret (v := .agg #[.int .i64 (cFrom W L i), .int .i64 32]) (by simp [results, Try.results22, go_sem, c0, c1, cFrom]; omega) rfl ⟨rfl, ?_⟩
  go_grown

set_option maxHeartbeats 400000 in
theorem refChunk_neg (W L i : Int) (w : World) (h : gOk W L = true) (hi : i < 0) :
    Calls Try.prog 22 #[.agg #[.int .i64 W, .int .i64 L], .int .i64 i] w fun e w' => e = .returned (.agg #[.int .i64 0, .int .i64 0]) ∧ Below w.heap.size w w' := by
  obtain ⟨n1, n2, n3, n4⟩ := gN_bd h
  obtain ⟨h1, h2, h3, h4⟩ := gOk_t h
  have H := Lib.hid h
  clear h
  go_enter Try.func22, Try.ntmps22
  go_wp2_with fail
  refine (refChunks_t W L _ H.out).mono ?_
  rintro e w1 ⟨rfl, hb⟩
  have k1 := (C2.new (w.alloc (.cells #[.int .i64 W, .int .i64 L] 23)) (.int .i64 0) (.int .i64 0) 29).keep hb
  have j1 := ((C2.new w (.int .i64 W) (.int .i64 L) 23).alloc (.cells #[.int .i64 0, .int .i64 0] 29)).keep hb
  have f1 := (F2.new (w.alloc (.cells #[.int .i64 W, .int .i64 L] 23)) (.int .i64 0) (.int .i64 0) 29).keep (by simp) hb
  simp only [World.size_alloc] at k1 f1
  have hB : Below w.heap.size w w1 := (((Below.refl _ _).alloc (Nat.le_refl _) _).alloc (by simp) _).trans (hb.mono (by simp; omega))
  have lt1 := k1.lt
  obtain ⟨c0, c1⟩ := id k1
  obtain ⟨d0, d1⟩ := id j1
  obtain ⟨g0, g1⟩ := id f1
  go_wp2_with fail
  refine bodyPost_ret (v := .agg #[.int .i64 0, .int .i64 0]) (by simp [results, Try.results22, go_sem, c0, c1]) rfl ⟨rfl, ?_⟩
  go_grown

set_option maxHeartbeats 400000 in
theorem refChunk_big (W L i : Int) (w : World) (h : gOk W L = true) (hi : 0 ≤ i) (hi2 : gN W L ≤ i) :
    Calls Try.prog 22 #[.agg #[.int .i64 W, .int .i64 L], .int .i64 i] w fun e w' => e = .returned (.agg #[.int .i64 0, .int .i64 0]) ∧ Below w.heap.size w w' := by
  obtain ⟨n1, n2, n3, n4⟩ := gN_bd h
  obtain ⟨h1, h2, h3, h4⟩ := gOk_t h
  have H := Lib.hid h
  clear h
  go_enter Try.func22, Try.ntmps22
  go_wp2_with fail
  refine (refChunks_t W L _ H.out).mono ?_
  rintro e w1 ⟨rfl, hb⟩
  have k1 := (C2.new (w.alloc (.cells #[.int .i64 W, .int .i64 L] 23)) (.int .i64 0) (.int .i64 0) 29).keep hb
  have j1 := ((C2.new w (.int .i64 W) (.int .i64 L) 23).alloc (.cells #[.int .i64 0, .int .i64 0] 29)).keep hb
  have f1 := (F2.new (w.alloc (.cells #[.int .i64 W, .int .i64 L] 23)) (.int .i64 0) (.int .i64 0) 29).keep (by simp) hb
  simp only [World.size_alloc] at k1 f1
  have hB : Below w.heap.size w w1 := (((Below.refl _ _).alloc (Nat.le_refl _) _).alloc (by simp) _).trans (hb.mono (by simp; omega))
  have lt1 := k1.lt
  obtain ⟨c0, c1⟩ := id k1
  obtain ⟨d0, d1⟩ := id j1
  obtain ⟨g0, g1⟩ := id f1
  go_wp2_with fail
  refine bodyPost_ret (v := .agg #[.int .i64 0, .int .i64 0]) (by simp [results, Try.results22, go_sem, c0, c1]) rfl ⟨rfl, ?_⟩
  go_grown

set_option maxHeartbeats 400000 in
theorem refChunk_fneg (W L i : Int) (w : World) (h : gOk W L = false) (hi : i < 0) :
    Calls Try.prog 22 #[.agg #[.int .i64 W, .int .i64 L], .int .i64 i] w fun e w' => e = .returned (.agg #[.int .i64 0, .int .i64 0]) ∧ Below w.heap.size w w' := by
  have H := Lib.hid h
  clear h
  go_enter Try.func22, Try.ntmps22
  go_wp2_with fail
  refine (refChunks_f W L _ H.out).mono ?_
  rintro e w1 ⟨rfl, hb⟩
  have k1 := (C2.new (w.alloc (.cells #[.int .i64 W, .int .i64 L] 23)) (.int .i64 0) (.int .i64 0) 29).keep hb
  have j1 := ((C2.new w (.int .i64 W) (.int .i64 L) 23).alloc (.cells #[.int .i64 0, .int .i64 0] 29)).keep hb
  have f1 := (F2.new (w.alloc (.cells #[.int .i64 W, .int .i64 L] 23)) (.int .i64 0) (.int .i64 0) 29).keep (by simp) hb
  simp only [World.size_alloc] at k1 f1
  have hB : Below w.heap.size w w1 := (((Below.refl _ _).alloc (Nat.le_refl _) _).alloc (by simp) _).trans (hb.mono (by simp; omega))
  have lt1 := k1.lt
  obtain ⟨c0, c1⟩ := id k1
  obtain ⟨d0, d1⟩ := id j1
  obtain ⟨g0, g1⟩ := id f1
  go_wp2_with fail
  refine bodyPost_ret (v := .agg #[.int .i64 0, .int .i64 0]) (by simp [results, Try.results22, go_sem, c0, c1]) rfl ⟨rfl, ?_⟩
  go_grown

set_option maxHeartbeats 400000 in
theorem refChunk_fpos (W L i : Int) (w : World) (h : gOk W L = false) (hi : 0 ≤ i) :
    Calls Try.prog 22 #[.agg #[.int .i64 W, .int .i64 L], .int .i64 i] w fun e w' => e = .returned (.agg #[.int .i64 0, .int .i64 0]) ∧ Below w.heap.size w w' := by
  have H := Lib.hid h
  clear h
  go_enter Try.func22, Try.ntmps22
  go_wp2_with fail
  refine (refChunks_f W L _ H.out).mono ?_
  rintro e w1 ⟨rfl, hb⟩
  have k1 := (C2.new (w.alloc (.cells #[.int .i64 W, .int .i64 L] 23)) (.int .i64 0) (.int .i64 0) 29).keep hb
  have j1 := ((C2.new w (.int .i64 W) (.int .i64 L) 23).alloc (.cells #[.int .i64 0, .int .i64 0] 29)).keep hb
  have f1 := (F2.new (w.alloc (.cells #[.int .i64 W, .int .i64 L] 23)) (.int .i64 0) (.int .i64 0) 29).keep (by simp) hb
  simp only [World.size_alloc] at k1 f1
  have hB : Below w.heap.size w w1 := (((Below.refl _ _).alloc (Nat.le_refl _) _).alloc (by simp) _).trans (hb.mono (by simp; omega))
  have lt1 := k1.lt
  obtain ⟨c0, c1⟩ := id k1
  obtain ⟨d0, d1⟩ := id j1
  obtain ⟨g0, g1⟩ := id f1
  go_wp2_with fail
  refine bodyPost_ret (v := .agg #[.int .i64 0, .int .i64 0]) (by simp [results, Try.results22, go_sem, c0, c1]) rfl ⟨rfl, ?_⟩
  go_grown

set_option maxHeartbeats 400000 in
theorem refOf_yes (W L i : Int) (w : World) (h : gOk W L = true) (hi : cFrom W L 0 ≤ i) (hi2 : i < cFrom W L (gN W L)) :
    Calls Try.prog 24 #[.agg #[.int .i64 W, .int .i64 L], .int .i64 i] w fun e w' => e = .returned (.tuple #[.int .i64 ((i - cFrom W L 0) / 32), .int .i64 ((i - cFrom W L 0) % 32)]) ∧ Below w.heap.size w w' := by
  obtain ⟨n1, n2, n3, n4⟩ := gN_bd h
  obtain ⟨h1, h2, h3, h4⟩ := gOk_t h
  unfold cFrom at hi hi2 ⊢
  have hq : (i - (10 + 73 * L + gN W L)) / 32 < gN W L := by omega
  have hq0 : 0 ≤ i - (10 + 73 * L + gN W L) := by omega
  have hq1 : decide (gN W L ≤ (i - (10 + 73 * L + gN W L)) / 32) = false := by simp; omega
  have hq2 : (gN W L == 0) = false := by simp; omega
  have H := Lib.hid h
  clear h
  go_enter Try.func24, Try.ntmps24
  go_wp2_with fail
  refine (refChunks_t W L _ H.out).mono ?_
  rintro e w1 ⟨rfl, hb⟩
  have hz1 : w.heap.size < w1.heap.size := by have := hb.size; simp at this; omega
  have hB : Below w.heap.size w w1 := ((Below.refl _ _).alloc (Nat.le_refl _) _).trans (hb.mono (by simp))
  have j1 := (C2.new w (.int .i64 W) (.int .i64 L) 23).keep hb
  obtain ⟨d0, d1⟩ := id j1
  go_wp2_with fail
  go_ret2
  exact ⟨ret_ii (by omega) (by omega), hB⟩

set_option maxHeartbeats 400000 in
theorem refOf_low (W L i : Int) (w : World) (h : gOk W L = true) (hi : i < cFrom W L 0) :
    Calls Try.prog 24 #[.agg #[.int .i64 W, .int .i64 L], .int .i64 i] w fun e w' => e = .returned (.tuple #[.int .i64 (-1), .int .i64 (-1)]) ∧ Below w.heap.size w w' := by
  obtain ⟨n1, n2, n3, n4⟩ := gN_bd h
  obtain ⟨h1, h2, h3, h4⟩ := gOk_t h
  unfold cFrom at hi
  have H := Lib.hid h
  clear h
  go_enter Try.func24, Try.ntmps24
  go_wp2_with fail
  refine (refChunks_t W L _ H.out).mono ?_
  rintro e w1 ⟨rfl, hb⟩
  have hz1 : w.heap.size < w1.heap.size := by have := hb.size; simp at this; omega
  have hB : Below w.heap.size w w1 := ((Below.refl _ _).alloc (Nat.le_refl _) _).trans (hb.mono (by simp))
  have j1 := (C2.new w (.int .i64 W) (.int .i64 L) 23).keep hb
  obtain ⟨d0, d1⟩ := id j1
  go_wp2_with fail
  go_ret2
  exact ⟨ret_ii (by omega) (by omega), hB⟩

set_option maxHeartbeats 400000 in
theorem refOf_high (W L i : Int) (w : World) (h : gOk W L = true) (hi : cFrom W L 0 ≤ i) (hi2 : cFrom W L (gN W L) ≤ i) (hi3 : i ≤ 9223372036854775807) :
    Calls Try.prog 24 #[.agg #[.int .i64 W, .int .i64 L], .int .i64 i] w fun e w' => e = .returned (.tuple #[.int .i64 (-1), .int .i64 (-1)]) ∧ Below w.heap.size w w' := by
  obtain ⟨n1, n2, n3, n4⟩ := gN_bd h
  obtain ⟨h1, h2, h3, h4⟩ := gOk_t h
  unfold cFrom at hi hi2
  have hq0 : 0 ≤ i - (10 + 73 * L + gN W L) := by omega
  have hq1 : decide (gN W L ≤ (i - (10 + 73 * L + gN W L)) / 32) = true := by simp; omega
  have hq2 : (gN W L == 0) = false := by simp; omega
  have H := Lib.hid h
  clear h
  go_enter Try.func24, Try.ntmps24
  go_wp2_with fail
  refine (refChunks_t W L _ H.out).mono ?_
  rintro e w1 ⟨rfl, hb⟩
  have hz1 : w.heap.size < w1.heap.size := by have := hb.size; simp at this; omega
  have hB : Below w.heap.size w w1 := ((Below.refl _ _).alloc (Nat.le_refl _) _).trans (hb.mono (by simp))
  have j1 := (C2.new w (.int .i64 W) (.int .i64 L) 23).keep hb
  obtain ⟨d0, d1⟩ := id j1
  go_wp2_with fail
  go_ret2
  exact ⟨ret_ii (by omega) (by omega), hB⟩

set_option maxHeartbeats 400000 in
theorem refOf_f (W L i : Int) (w : World) (h : gOk W L = false) :
    Calls Try.prog 24 #[.agg #[.int .i64 W, .int .i64 L], .int .i64 i] w fun e w' => e = .returned (.tuple #[.int .i64 (-1), .int .i64 (-1)]) ∧ Below w.heap.size w w' := by
  have H := Lib.hid h
  clear h
  go_enter Try.func24, Try.ntmps24
  go_wp2_with fail
  refine (refChunks_f W L _ H.out).mono ?_
  rintro e w1 ⟨rfl, hb⟩
  have hB : Below w.heap.size w w1 := ((Below.refl _ _).alloc (Nat.le_refl _) _).trans (hb.mono (by simp))
  have j1 := (C2.new w (.int .i64 W) (.int .i64 L) 23).keep hb
  obtain ⟨d0, d1⟩ := id j1
  go_wp2_with fail
  go_ret2
  exact ⟨rfl, hB⟩

def smW (a b c : Int) : Int := 10 + 73 * (1 + a % 64) + 33 * (1 + b % 200) + c % 33
def smL (a : Int) : Int := 1 + a % 64
theorem sm_ok (a b c : Int) (_ha : 0 ≤ a) (_hb : 0 ≤ b) (_hc : 0 ≤ c) : gOk (smW a b c) (smL a) = true ∧ gN (smW a b c) (smL a) = 1 + b % 200 := by
  unfold gOk gN smW smL
  refine ⟨?_, ?_⟩
  · simp only [decide_eq_true_eq]; omega
  · omega
set_option maxHeartbeats 400000 in
theorem small_any (a b c : Int) (w : World) (h1 : 0 ≤ a) (h2 : a ≤ 255) (h3 : 0 ≤ b) (h4 : b ≤ 255) (h5 : 0 ≤ c) (h6 : c ≤ 255) :
    Calls Try.prog 25 #[.int .u8 a, .int .u8 b, .int .u8 c] w fun e w' => e = .returned (.agg #[.int .i64 (smW a b c), .int .i64 (smL a)]) ∧ Below w.heap.size w w' := by
  go_enter Try.func25, Try.ntmps25
  go_wp2
  go_returns
  refine ⟨?_, by go_grown⟩
  unfold smW smL
  exact ret_g (by omega) (by omega)

end Go.Proofs.Ytalplklaepbaeaa
