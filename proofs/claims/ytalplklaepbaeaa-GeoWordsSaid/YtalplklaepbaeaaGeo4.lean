/-
  What the calls of package geo answer: contracts on the calls (4).
-/
import Derived.Test.YtalplklaepbaeaaGeo3
namespace Go.Proofs.Ytalplklaepbaeaa
open Go.RowKit

set_option maxHeartbeats 400000 in
theorem has_yes (W L i : Int) (w : World) (h : gOk W L = true) (hi : 0 ≤ i) (hi2 : i < L) :
    Calls Try.prog 27 #[.agg #[.int .i64 W, .int .i64 L], .int .i64 i] w fun e w' => e = .returned (.bool true) ∧ Below w.heap.size w w' := by
  have H := Lib.hid h
  clear h
  go_enter Try.func27, Try.ntmps27
  go_wp2_with fail
  refine (right_t W L _ H.out).mono ?_
  rintro e w1 ⟨rfl, hb⟩
  have k1 := (C2.new w (.int .i64 W) (.int .i64 L) 23).keep hb
  obtain ⟨c0, c1⟩ := id k1
  go_wp2_with fail
  go_ret
  exact ⟨ret_b (by simp), ((Below.refl _ _).alloc (Nat.le_refl _) _).trans (hb.mono (by simp))⟩

set_option maxHeartbeats 400000 in
theorem has_neg (W L i : Int) (w : World) (h : gOk W L = true) (hi : i < 0) :
    Calls Try.prog 27 #[.agg #[.int .i64 W, .int .i64 L], .int .i64 i] w fun e w' => e = .returned (.bool false) ∧ Below w.heap.size w w' := by
  have H := Lib.hid h
  clear h
  go_enter Try.func27, Try.ntmps27
  go_wp2_with fail
  refine (right_t W L _ H.out).mono ?_
  rintro e w1 ⟨rfl, hb⟩
  have k1 := (C2.new w (.int .i64 W) (.int .i64 L) 23).keep hb
  obtain ⟨c0, c1⟩ := id k1
  go_wp2_with fail
  go_ret
  exact ⟨ret_b (by simp), ((Below.refl _ _).alloc (Nat.le_refl _) _).trans (hb.mono (by simp))⟩

set_option maxHeartbeats 400000 in
theorem has_big (W L i : Int) (w : World) (h : gOk W L = true) (hi : 0 ≤ i) (hi2 : L ≤ i) :
    Calls Try.prog 27 #[.agg #[.int .i64 W, .int .i64 L], .int .i64 i] w fun e w' => e = .returned (.bool false) ∧ Below w.heap.size w w' := by
  have H := Lib.hid h
  clear h
  go_enter Try.func27, Try.ntmps27
  go_wp2_with fail
  refine (right_t W L _ H.out).mono ?_
  rintro e w1 ⟨rfl, hb⟩
  have k1 := (C2.new w (.int .i64 W) (.int .i64 L) 23).keep hb
  obtain ⟨c0, c1⟩ := id k1
  go_wp2_with fail
  go_ret
  exact ⟨ret_b (by simp; omega), ((Below.refl _ _).alloc (Nat.le_refl _) _).trans (hb.mono (by simp))⟩

set_option maxHeartbeats 400000 in
theorem has_f (W L i : Int) (w : World) (h : gOk W L = false)  :
    Calls Try.prog 27 #[.agg #[.int .i64 W, .int .i64 L], .int .i64 i] w fun e w' => e = .returned (.bool false) ∧ Below w.heap.size w w' := by
  have H := Lib.hid h
  clear h
  go_enter Try.func27, Try.ntmps27
  go_wp2_with fail
  refine (right_f W L _ H.out).mono ?_
  rintro e w1 ⟨rfl, hb⟩
  have k1 := (C2.new w (.int .i64 W) (.int .i64 L) 23).keep hb
  obtain ⟨c0, c1⟩ := id k1
  go_wp2_with fail
  go_ret
  exact ⟨ret_b (by simp), ((Below.refl _ _).alloc (Nat.le_refl _) _).trans (hb.mono (by simp))⟩

/-- a lane that there is -/
def lOk (W L i : Int) : Bool := gOk W L && decide (0 ≤ i ∧ i < L)
theorem lOk_t {W L i : Int} (h : lOk W L i = true) : gOk W L = true ∧ 0 ≤ i ∧ i < L := by
  simp only [lOk, Bool.and_eq_true, decide_eq_true_eq] at h; exact h
theorem lOk_f {W L i : Int} (h : lOk W L i = false) : gOk W L = false ∨ (gOk W L = true ∧ i < 0) ∨ (gOk W L = true ∧ 0 ≤ i ∧ L ≤ i) := by
  cases hg : gOk W L
  · exact .inl rfl
  · refine .inr ?_
    simp only [lOk, hg, Bool.true_and, decide_eq_false_iff_not] at h
    by_cases hi : i < 0
    · exact .inl ⟨rfl, hi⟩
    · exact .inr ⟨rfl, by omega, by omega⟩
theorem has_t (W L i : Int) (w : World) (h : lOk W L i = true) :
    Calls Try.prog 27 #[.agg #[.int .i64 W, .int .i64 L], .int .i64 i] w fun e w' => e = .returned (.bool true) ∧ Below w.heap.size w w' := has_yes W L i w (lOk_t h).1 (lOk_t h).2.1 (lOk_t h).2.2
theorem has_no (W L i : Int) (w : World) (h : lOk W L i = false) :
    Calls Try.prog 27 #[.agg #[.int .i64 W, .int .i64 L], .int .i64 i] w fun e w' => e = .returned (.bool false) ∧ Below w.heap.size w w' := by
  rcases lOk_f h with h | ⟨h, hi⟩ | ⟨h, hi, hi2⟩
  · exact has_f W L i w h
  · exact has_neg W L i w h hi
  · exact has_big W L i w h hi hi2

set_option maxHeartbeats 400000 in
theorem mark_t (W L i : Int) (w : World) (h : lOk W L i = true) :
    Calls Try.prog 13 #[.agg #[.int .i64 W, .int .i64 L], .int .i64 i] w fun e w' => e = .returned (.int .i64 (10 + i)) ∧ Below w.heap.size w w' := by
  obtain ⟨h0, h1, h2⟩ := lOk_t h
  obtain ⟨h3, h4, _, _⟩ := gOk_t h0
  clear h0
  have H := Lib.hid h
  clear h
  go_enter Try.func13, Try.ntmps13
  go_wp2_with fail
  refine (has_t W L i _ H.out).mono ?_
  rintro e w1 ⟨rfl, hb⟩
  go_wp2_with fail
  go_ret
  exact ⟨rfl, ((Below.refl _ _).alloc (Nat.le_refl _) _).trans (hb.mono (by simp))⟩
set_option maxHeartbeats 400000 in
theorem mark_f (W L i : Int) (w : World) (h : lOk W L i = false) :
    Calls Try.prog 13 #[.agg #[.int .i64 W, .int .i64 L], .int .i64 i] w fun e w' => e = .returned (.int .i64 (-1)) ∧ Below w.heap.size w w' := by
  have H := Lib.hid h
  clear h
  go_enter Try.func13, Try.ntmps13
  go_wp2_with fail
  refine (has_no W L i _ H.out).mono ?_
  rintro e w1 ⟨rfl, hb⟩
  go_wp2_with fail
  go_ret
  exact ⟨rfl, ((Below.refl _ _).alloc (Nat.le_refl _) _).trans (hb.mono (by simp))⟩

set_option maxHeartbeats 400000 in
theorem words_f (W L i : Int) (w : World) (h : lOk W L i = false) :
    Calls Try.prog 28 #[.agg #[.int .i64 W, .int .i64 L], .int .i64 i] w fun e w' => e = .returned (.func (.func 30) #[] #[]) ∧ Below w.heap.size w w' := by
  have H := Lib.hid h
  clear h
  go_enter Try.func28, Try.ntmps28
  go_wp2_with fail
  refine (has_no W L i _ H.out).mono ?_
  rintro e w1 ⟨rfl, hb⟩
  go_wp2_with fail
  go_ret
  exact ⟨rfl, ((Below.refl _ _).alloc (Nat.le_refl _) _).trans (hb.mono (by simp))⟩

/-- a captured number -/
def Cap (w : World) (b : Nat) (x : Value) : Prop := w.cell? ⟨b, 0, none⟩ = some x
set_option maxHeartbeats 400000 in
theorem words_t (W L i : Int) (w : World) (h : lOk W L i = true) :
    Calls Try.prog 28 #[.agg #[.int .i64 W, .int .i64 L], .int .i64 i] w fun e w' => ∃ b, e = .returned (.func (.func 32) #[] #[.pointer (some ⟨b, 0, none⟩)]) ∧ Cap w' b (.int .i64 (10 + L + i * 72)) ∧ w.heap.size ≤ b ∧ Below w.heap.size w w' := by
  obtain ⟨h0, h1, h2⟩ := lOk_t h
  obtain ⟨h3, h4, _, _⟩ := gOk_t h0
  clear h0
  have H := Lib.hid h
  clear h
  go_enter Try.func28, Try.ntmps28
  go_wp2_with fail
  refine (has_t W L i _ H.out).mono ?_
  rintro e w1 ⟨rfl, hb⟩
  have k1 := (C2.new w (.int .i64 W) (.int .i64 L) 23).keep hb
  obtain ⟨c0, c1⟩ := id k1
  have lt1 := k1.lt
  have hB : Below w.heap.size w w1 := ((Below.refl _ _).alloc (Nat.le_refl _) _).trans (hb.mono (by simp))
  go_wp2_with fail
  refine (lane_any W L i _ h3 h4 h1 (by omega)).mono ?_
  rintro e w2 ⟨rfl, hb2⟩
  obtain ⟨hB2, hz2⟩ := belowStep hB (Nat.le_of_lt lt1) hb2
  go_wp2_with fail
  go_ret
  exact ⟨w2.heap.size, rfl, by unfold Cap; simp [go_sem], hz2, hB2.alloc hz2 _⟩

set_option maxHeartbeats 400000 in
theorem words1_any (s m : Int) (w : World) :
    Calls Try.prog 30 #[.int .i64 s, .int .i64 m] w fun e w' => e = .returned (.agg #[.int .i64 0, .int .i64 0]) ∧ Below w.heap.size w w' := by
  go_enter Try.func30, Try.ntmps30
  go_wp2
  go_returns
  exact ⟨rfl, by go_grown⟩
set_option maxHeartbeats 400000 in
theorem words2_any (f s m : Int) (b : Nat) (w : World) (hc : w.cell? ⟨b, 0, none⟩ = some (.int .i64 f)) (h1 : 0 ≤ f) (h2 : f ≤ 100000) (h3 : 0 ≤ s) (h4 : s ≤ 100) :
    Calls Try.prog 32 #[.int .i64 s, .int .i64 m, .pointer (some ⟨b, 0, none⟩)] w fun e w' => e = .returned (.agg #[.int .i64 (f + s), .int .i64 m]) ∧ Below w.heap.size w w' := by
  have hlt : b < w.heap.size := World.block_lt_of_cell? w _ hc
  go_enter Try.func32, Try.ntmps32
  go_wp2
  go_returns
  exact ⟨rfl, by go_grown⟩

set_option maxHeartbeats 400000 in
theorem log_t (W L i : Int) (w : World) (h : lOk W L i = true) :
    Calls Try.prog 15 #[.agg #[.int .i64 W, .int .i64 L], .int .i64 i] w fun e w' => e = .returned (.agg #[.int .i64 (10 + L + i * 72), .int .i64 32]) ∧ Below w.heap.size w w' := by
  obtain ⟨h0, h1, h2⟩ := lOk_t h
  obtain ⟨h3, h4, _, _⟩ := gOk_t h0
  clear h0
  have H := Lib.hid h
  clear h
  go_enter Try.func15, Try.ntmps15
  go_wp2_with fail
  refine (words_t W L i _ H.out).mono ?_
  rintro e w1 ⟨b, rfl, hcap, hbl, hb⟩
  have k1 := (C2.new (w.alloc (.cells #[.int .i64 W, .int .i64 L] 23)) (.int .i64 0) (.int .i64 0) 29).keep hb
  have f1 := (F2.new (w.alloc (.cells #[.int .i64 W, .int .i64 L] 23)) (.int .i64 0) (.int .i64 0) 29).keep (by simp) hb
  simp only [World.size_alloc] at k1 f1
  have hB : Below w.heap.size w w1 := (((Below.refl _ _).alloc (Nat.le_refl _) _).alloc (by simp) _).trans (hb.mono (by simp; omega))
  have lt1 := k1.lt
  go_wp2_with fail
  refine (words2_any (10 + L + i * 72) 0 32 b _ hcap (by omega) (by omega) (by omega) (by omega)).mono ?_
  rintro e w2 ⟨rfl, hb2⟩
  have k2 := k1.keep hb2
  have f2 := f1.keep lt1 hb2
  obtain ⟨hB2, hz2⟩ := belowStep hB (by omega) hb2
  obtain ⟨c0, c1⟩ := id k2
  obtain ⟨g0, g1⟩ := id f2
  go_wp2_with fail
  refine bodyPost_ret (v := .agg #[.int .i64 (10 + L + i * 72), .int .i64 32]) (by simp [results, Try.results15, go_sem, c0, c1]) rfl ⟨rfl, ?_⟩
  go_grown

set_option maxHeartbeats 400000 in
theorem log_f (W L i : Int) (w : World) (h : lOk W L i = false) :
    Calls Try.prog 15 #[.agg #[.int .i64 W, .int .i64 L], .int .i64 i] w fun e w' => e = .returned (.agg #[.int .i64 0, .int .i64 0]) ∧ Below w.heap.size w w' := by
  have H := Lib.hid h
  clear h
  go_enter Try.func15, Try.ntmps15
  go_wp2_with fail
  refine (words_f W L i _ H.out).mono ?_
  rintro e w1 ⟨rfl, hb⟩
  have k1 := (C2.new (w.alloc (.cells #[.int .i64 W, .int .i64 L] 23)) (.int .i64 0) (.int .i64 0) 29).keep hb
  have f1 := (F2.new (w.alloc (.cells #[.int .i64 W, .int .i64 L] 23)) (.int .i64 0) (.int .i64 0) 29).keep (by simp) hb
  simp only [World.size_alloc] at k1 f1
  have hB : Below w.heap.size w w1 := (((Below.refl _ _).alloc (Nat.le_refl _) _).alloc (by simp) _).trans (hb.mono (by simp; omega))
  have lt1 := k1.lt
  go_wp2_with fail
  refine (words1_any 0 32 _).mono ?_
  rintro e w2 ⟨rfl, hb2⟩
  have k2 := k1.keep hb2
  have f2 := f1.keep lt1 hb2
  obtain ⟨hB2, hz2⟩ := belowStep hB (by omega) hb2
  obtain ⟨c0, c1⟩ := id k2
  obtain ⟨g0, g1⟩ := id f2
  go_wp2_with fail
  refine bodyPost_ret (v := .agg #[.int .i64 0, .int .i64 0]) (by simp [results, Try.results15, go_sem, c0, c1]) rfl ⟨rfl, ?_⟩
  go_grown

set_option maxHeartbeats 400000 in
theorem redo_t (W L i : Int) (w : World) (h : lOk W L i = true) :
    Calls Try.prog 17 #[.agg #[.int .i64 W, .int .i64 L], .int .i64 i] w fun e w' => e = .returned (.agg #[.int .i64 (10 + L + i * 72 + 32), .int .i64 40]) ∧ Below w.heap.size w w' := by
  obtain ⟨h0, h1, h2⟩ := lOk_t h
  obtain ⟨h3, h4, _, _⟩ := gOk_t h0
  clear h0
  have H := Lib.hid h
  clear h
  go_enter Try.func17, Try.ntmps17
  go_wp2_with fail
  refine (words_t W L i _ H.out).mono ?_
  rintro e w1 ⟨b, rfl, hcap, hbl, hb⟩
  have k1 := (C2.new (w.alloc (.cells #[.int .i64 W, .int .i64 L] 23)) (.int .i64 0) (.int .i64 0) 29).keep hb
  have f1 := (F2.new (w.alloc (.cells #[.int .i64 W, .int .i64 L] 23)) (.int .i64 0) (.int .i64 0) 29).keep (by simp) hb
  simp only [World.size_alloc] at k1 f1
  have hB : Below w.heap.size w w1 := (((Below.refl _ _).alloc (Nat.le_refl _) _).alloc (by simp) _).trans (hb.mono (by simp; omega))
  have lt1 := k1.lt
  go_wp2_with fail
  refine (words2_any (10 + L + i * 72) 32 40 b _ hcap (by omega) (by omega) (by omega) (by omega)).mono ?_
  rintro e w2 ⟨rfl, hb2⟩
  have k2 := k1.keep hb2
  have f2 := f1.keep lt1 hb2
  obtain ⟨hB2, hz2⟩ := belowStep hB (by omega) hb2
  obtain ⟨c0, c1⟩ := id k2
  obtain ⟨g0, g1⟩ := id f2
  go_wp2_with fail
  refine bodyPost_ret (v := .agg #[.int .i64 (10 + L + i * 72 + 32), .int .i64 40]) (by simp [results, Try.results17, go_sem, c0, c1]) rfl ⟨rfl, ?_⟩
  go_grown

set_option maxHeartbeats 400000 in
theorem redo_f (W L i : Int) (w : World) (h : lOk W L i = false) :
    Calls Try.prog 17 #[.agg #[.int .i64 W, .int .i64 L], .int .i64 i] w fun e w' => e = .returned (.agg #[.int .i64 0, .int .i64 0]) ∧ Below w.heap.size w w' := by
  have H := Lib.hid h
  clear h
  go_enter Try.func17, Try.ntmps17
  go_wp2_with fail
  refine (words_f W L i _ H.out).mono ?_
  rintro e w1 ⟨rfl, hb⟩
  have k1 := (C2.new (w.alloc (.cells #[.int .i64 W, .int .i64 L] 23)) (.int .i64 0) (.int .i64 0) 29).keep hb
  have f1 := (F2.new (w.alloc (.cells #[.int .i64 W, .int .i64 L] 23)) (.int .i64 0) (.int .i64 0) 29).keep (by simp) hb
  simp only [World.size_alloc] at k1 f1
  have hB : Below w.heap.size w w1 := (((Below.refl _ _).alloc (Nat.le_refl _) _).alloc (by simp) _).trans (hb.mono (by simp; omega))
  have lt1 := k1.lt
  go_wp2_with fail
  refine (words1_any 32 40 _).mono ?_
  rintro e w2 ⟨rfl, hb2⟩
  have k2 := k1.keep hb2
  have f2 := f1.keep lt1 hb2
  obtain ⟨hB2, hz2⟩ := belowStep hB (by omega) hb2
  obtain ⟨c0, c1⟩ := id k2
  obtain ⟨g0, g1⟩ := id f2
  go_wp2_with fail
  refine bodyPost_ret (v := .agg #[.int .i64 0, .int .i64 0]) (by simp [results, Try.results17, go_sem, c0, c1]) rfl ⟨rfl, ?_⟩
  go_grown

end Go.Proofs.Ytalplklaepbaeaa
