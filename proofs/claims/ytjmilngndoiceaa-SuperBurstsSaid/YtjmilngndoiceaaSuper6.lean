/-
  The laws of package super: SuperEncodes, SuperUnlike (walks).
-/
import Derived.Test.YtjmilngndoiceaaSuper5
import Derived.Test.YtjmilngndoiceaaUSeal9
set_option linter.unusedVariables false
set_option linter.unusedSimpArgs false
namespace Go.Proofs.Ytjmilngndoiceaa
open Go.RowKit

set_option maxHeartbeats 1000000 in
theorem superEncodes_t (W L G : Nat) (w : World) (h : gOk W L = true) (hG : gN W L = (G : Int)) :
    Calls Try.prog 3 #[.agg #[.int .i64 W, .int .i64 L]] w fun e w' => e = .returned (.bool true) ∧ Below w.heap.size w w' := by
  have hA := Lib.hid awake06
  have hE := Lib.hid (fun w => senc_t W L G w h hG)
  have hR := Lib.hid (fun w => renc_t W L G w h hG)
  replace hG := Lib.hid hG
  replace h := Lib.hid h
  have hC0 := C2.new w (.int .i64 W) (.int .i64 L) 23
  go_enter Try.func3, Try.ntmps3
  go_wp2_with fail
  refine (hA.out _).mono ?_
  rintro e w1 ⟨rfl, hb1⟩
  have hB1 : Below w.heap.size w w1 := ((Below.refl _ _).alloc (Nat.le_refl _) _).trans (hb1.mono (by simp))
  have hC1 := hC0.keep hb1
  clear hC0 hb1
  obtain ⟨k0, k1⟩ := id hC1
  go_wp2_with fail
  refine (hE.out _).mono ?_
  rintro e w2 ⟨ge, rfl, hge, hRw, hb2⟩
  have hB2 := hB1.trans (hb2.mono hB1.size)
  have hC2 := hC1.keep hb2
  clear hC1 hb2 k0 k1
  obtain ⟨k0, k1⟩ := id hC2
  go_wp2_with fail
  refine (hR.out _).mono ?_
  rintro e w3 ⟨v, rfl, hS3, hb3⟩
  have hB3 := hB2.trans (hb3.mono hB2.size)
  have hSa := hRw.sl.keep hb3
  rw [show headL W L G ++ [moreN 0 (headL W L G)] = headW W L G from rfl, headW_len] at hSa
  have hX := Lib.hid (words_same _ _ _ w3 (by rw [headW_len]; omega) hSa hS3)
  clear hb3 hC2 k0 k1 hRw hSa hS3
  go_wp2_with fail
  refine hX.out.mono ?_
  rintro e w4 ⟨rfl, hb4⟩
  have hB4 := hB3.trans (hb4.mono hB3.size)
  go_wp2_with fail
  go_ret
  exact ⟨rfl, hB4⟩
set_option maxHeartbeats 1000000 in
theorem superEncodes_f (W L : Int) (w : World) (h : gOk W L = false) :
    Calls Try.prog 3 #[.agg #[.int .i64 W, .int .i64 L]] w fun e w' => e = .returned (.bool true) ∧ Below w.heap.size w w' := by
  have hA := Lib.hid awake06
  have hE := Lib.hid (fun w => senc_f W L w h)
  have hR := Lib.hid (fun w => renc_f W L w h)
  replace h := Lib.hid h
  have hC0 := C2.new w (.int .i64 W) (.int .i64 L) 23
  go_enter Try.func3, Try.ntmps3
  go_wp2_with fail
  refine (hA.out _).mono ?_
  rintro e w1 ⟨rfl, hb1⟩
  have hB1 : Below w.heap.size w w1 := ((Below.refl _ _).alloc (Nat.le_refl _) _).trans (hb1.mono (by simp))
  have hC1 := hC0.keep hb1
  clear hC0 hb1
  obtain ⟨k0, k1⟩ := id hC1
  go_wp2_with fail
  refine (hE.out _).mono ?_
  rintro e w2 ⟨rfl, hb2⟩
  have hB2 := hB1.trans (hb2.mono hB1.size)
  have hC2 := hC1.keep hb2
  clear hC1 hb2 k0 k1
  obtain ⟨k0, k1⟩ := id hC2
  go_wp2_with fail
  refine (hR.out _).mono ?_
  rintro e w3 ⟨rfl, hb3⟩
  have hB3 := hB2.trans (hb3.mono hB2.size)
  have hX := Lib.hid (words_same (.slice none 0 0) (.slice none 0 0) [] w3 (by simp) (.inl ⟨rfl, _, _, rfl⟩) (.inl ⟨rfl, _, _, rfl⟩))
  clear hb3 hC2 k0 k1
  go_wp2_with fail
  refine hX.out.mono ?_
  rintro e w4 ⟨rfl, hb4⟩
  have hB4 := hB3.trans (hb4.mono hB3.size)
  go_wp2_with fail
  go_ret
  exact ⟨rfl, hB4⟩
theorem superEncodes (W L : Int) (w : World) : Calls Try.prog 3 #[.agg #[.int .i64 W, .int .i64 L]] w fun e w' => e = .returned (.bool true) ∧ Below w.heap.size w w' := by
  cases h : gOk W L with
  | false => exact superEncodes_f W L w h
  | true =>
    obtain ⟨h1, h2, h3, h4⟩ := gOk_t h
    obtain ⟨n, rfl⟩ := Int.eq_ofNat_of_zero_le (show 0 ≤ W by omega)
    obtain ⟨m, rfl⟩ := Int.eq_ofNat_of_zero_le (show 0 ≤ L by omega)
    exact superEncodes_t n m _ w h (gNat_eq h)

theorem small_nat (a b c : Int) (h1 : 0 ≤ a) (h2 : 0 ≤ b) (h3 : 0 ≤ c) : ∃ W L G : Nat, smW a b c = W ∧ smL a = L ∧ gOk (W : Int) (L : Int) = true ∧ gN (W : Int) (L : Int) = (G : Int) := by
  obtain ⟨k1, k2⟩ := sm_ok a b c h1 h2 h3
  obtain ⟨q1, q2, q3, q4⟩ := gOk_t k1
  obtain ⟨n, hn⟩ := Int.eq_ofNat_of_zero_le (show 0 ≤ smW a b c by omega)
  obtain ⟨m, hm⟩ := Int.eq_ofNat_of_zero_le (show 0 ≤ smL a by omega)
  rw [hn, hm] at k1 k2
  exact ⟨n, m, _, hn, hm, k1, gNat_eq k1⟩
theorem headW_inj {W1 L1 G1 W2 L2 G2 : Nat} (h : headW W1 L1 G1 = headW W2 L2 G2) : W1 = W2 ∧ L1 = L2 := by
  simp [headW, headL] at h
  omega
set_option maxRecDepth 10000 in
set_option maxHeartbeats 4000000 in
theorem superUnlike_in (a b c a' b' c' : Int) (W1 L1 G1 W2 L2 G2 : Nat) (w : World) (n1 : smW a b c = W1) (n2 : smL a = L1) (n3 : gOk W1 L1 = true) (n4 : gN W1 L1 = (G1 : Int)) (m1 : smW a' b' c' = W2) (m2 : smL a' = L2) (m3 : gOk W2 L2 = true) (m4 : gN W2 L2 = (G2 : Int)) (hsame : W1 = W2 → L1 = L2 → G1 = G2)
    (h1 : 0 ≤ a) (h2 : a ≤ 255) (h3 : 0 ≤ b) (h4 : b ≤ 255) (h5 : 0 ≤ c) (h6 : c ≤ 255) (h7 : 0 ≤ a') (h8 : a' ≤ 255) (h9 : 0 ≤ b') (h10 : b' ≤ 255) (h11 : 0 ≤ c') (h12 : c' ≤ 255) :
    Calls Try.prog 7 #[.int .u8 a, .int .u8 b, .int .u8 c, .int .u8 a', .int .u8 b', .int .u8 c'] w fun e w' => e = .returned (.bool true) ∧ Below w.heap.size w w' := by
  have hA := Lib.hid awake06
  have hM1 := Lib.hid (fun w => small_any a b c w h1 h2 h3 h4 h5 h6)
  have hM2 := Lib.hid (fun w => small_any a' b' c' w h7 h8 h9 h10 h11 h12)
  rw [n1, n2] at hM1
  rw [m1, m2] at hM2
  have hE1 := Lib.hid (fun w => senc_t W1 L1 G1 w n3 n4)
  have hE2 := Lib.hid (fun w => senc_t W2 L2 G2 w m3 m4)
  clear n1 n2 n3 n4 m1 m2 m3 m4 h1 h2 h3 h4 h5 h6 h7 h8 h9 h10 h11 h12
  go_enter Try.func7, Try.ntmps7
  go_wp2_with fail
  refine (hA.out _).mono ?_
  rintro e w1 ⟨rfl, hB1⟩
  go_wp2_with fail
  refine (hM1.out _).mono ?_
  rintro e w2 ⟨rfl, hb2⟩
  have hB2 := hB1.trans (hb2.mono hB1.size)
  have p2 := C2.new w2 (.int .i64 W1) (.int .i64 L1) 23
  have hB2' : Below w.heap.size w (w2.alloc (.cells #[.int .i64 W1, .int .i64 L1] 23)) := hB2.alloc hB2.size _
  go_wp2_with fail
  refine (hM2.out _).mono ?_
  rintro e w3 ⟨rfl, hb3⟩
  have hB3 := hB2'.trans (hb3.mono hB2'.size)
  have p3 := p2.keep hb3
  have hB3' : Below w.heap.size w (w3.alloc (.cells #[.int .i64 W2, .int .i64 L2] 23)) := hB3.alloc hB3.size _
  replace p3 := p3.alloc (.cells #[.int .i64 W2, .int .i64 L2] 23)
  have q3 := C2.new w3 (.int .i64 W2) (.int .i64 L2) 23
  clear hB1 hb2 hB2 p2 hB2' hb3 hB3
  obtain ⟨p0, p1⟩ := id p3
  obtain ⟨q0, q1⟩ := id q3
  go_wp2_with fail
  refine (hE1.out _).mono ?_
  rintro e w4 ⟨ge1, rfl, hge1, hR1, hb4⟩
  have hB4 := hB3'.trans (hb4.mono hB3'.size)
  replace p3 := p3.keep hb4
  replace q3 := q3.keep hb4
  clear hB3' hb4 p0 p1 q0 q1
  obtain ⟨p0, p1⟩ := id p3
  obtain ⟨q0, q1⟩ := id q3
  go_wp2_with fail
  refine (hE2.out _).mono ?_
  rintro e w5 ⟨ge2, rfl, hge2, hR2, hb5⟩
  have hB5 := hB4.trans (hb5.mono hB4.size)
  replace p3 := p3.keep hb5
  replace q3 := q3.keep hb5
  have hS1 := hR1.sl.keep hb5
  have hS2 := hR2.sl
  rw [show headL W1 L1 G1 ++ [moreN 0 (headL W1 L1 G1)] = headW W1 L1 G1 from rfl, headW_len] at hS1
  rw [show headL W2 L2 G2 ++ [moreN 0 (headL W2 L2 G2)] = headW W2 L2 G2 from rfl, headW_len] at hS2
  obtain ⟨B, hBe⟩ : ∃ B, B = w5.heap.size := ⟨_, rfl⟩
  have hX := Lib.hid (fun (w6 : World) (hb : Below B w5 w6) => words_any (.slice (some ⟨ge1, 0, none⟩) 8 8) (.slice (some ⟨ge2, 0, none⟩) 8 8) _ _ w6 (by rw [headW_len]; omega) (by rw [headW_len, headW_len]) (by rw [headW_len]; omega) (hS1.keep (by rw [← hBe]; exact hb)) (hS2.keep (by rw [← hBe]; exact hb)))
  have hBs : B ≤ w5.heap.size := Nat.le_of_eq hBe
  replace hBe := Lib.hid hBe
  clear hB4 hb5 p0 p1 q0 q1 hR1 hR2 hS1 hS2 hge1 hge2 hE1 hE2 hM1 hM2 hA
  obtain ⟨p0, p1⟩ := id p3
  obtain ⟨q0, q1⟩ := id q3
  clear p3 q3
  generalize w2.heap.size = g1 at *
  generalize w3.heap.size = g2 at *
  go_wp2_with fail
  have hcases : (W1 = W2 ∧ L1 = L2) ∨ (W1 = W2 ∧ L1 ≠ L2) ∨ W1 ≠ W2 := by omega
  rcases hcases with ⟨c1, c2⟩ | ⟨c1, c2⟩ | c1
  · subst c1
    subst c2
    have hGG : G1 = G2 := hsame rfl rfl
    subst hGG
    rw [decide_eq_true (rfl : headW W1 L1 G1 = headW W1 L1 G1)] at hX
    refine wp_region_held_drew (S := (fun w' => w'.cell? ⟨g1, 0, none⟩ = some (.int .i64 W1) ∧ w'.cell? ⟨g1, 1, none⟩ = some (.int .i64 L1) ∧ w'.cell? ⟨g2, 0, none⟩ = some (.int .i64 W1) ∧ w'.cell? ⟨g2, 1, none⟩ = some (.int .i64 L1) ∧ Below w.heap.size w w' ∧ Below B w5 w')) (by kernel_rfl) ?_ (fun hHeld => ?_)
    · (try dsimp only)
      first | exact ⟨p0, p1, q0, q1, hB5.drew, (Below.refl _ _).drew⟩ | exact ⟨cellK hHeld.1 hb, cellK hHeld.2.1 hb, cellK hHeld.2.2.1 hb, cellK hHeld.2.2.2.1 hb, hHeld.2.2.2.2.1.trans (hb.mono hHeld.2.2.2.2.1.size), hHeld.2.2.2.2.2.trans (hb.mono (Nat.le_trans hBs hHeld.2.2.2.2.2.size))⟩
    refine takeL 0 (v := ?_) rfl (by kernel_rfl) (by kernel_rfl) (by kernel_rfl) (fun _ _ _ h => h) (by rfl) (by assumption) ?_ ?_
    rotate_left
    · (intro w hSw; (try dsimp only at hSw); go_simp <;> with_reducible rfl)
    try simp only [Act.put, List.setIfInBounds_toArray, List.set_cons_zero, List.set_cons_succ]
    refine takeL 1 (v := ?_) rfl (by kernel_rfl) (by kernel_rfl) (by kernel_rfl) (fun _ _ _ h => h) (by rfl) (by assumption) ?_ ?_
    rotate_left
    · (intro w hSw; (try dsimp only at hSw); go_simp <;> with_reducible rfl)
    try simp only [Act.put, List.setIfInBounds_toArray, List.set_cons_zero, List.set_cons_succ]
    refine takeL 2 (v := ?_) rfl (by kernel_rfl) (by kernel_rfl) (by kernel_rfl) (fun _ _ _ h => h) (by rfl) (by assumption) ?_ ?_
    rotate_left
    · (intro w hSw; (try dsimp only at hSw); go_simp <;> with_reducible rfl)
    try simp only [Act.put, List.setIfInBounds_toArray, List.set_cons_zero, List.set_cons_succ]
    refine takeL 3 (v := ?_) rfl (by kernel_rfl) (by kernel_rfl) (by kernel_rfl) (fun _ _ _ h => h) (by rfl) (by assumption) ?_ ?_
    rotate_left
    · (intro w hSw; (try dsimp only at hSw); go_simp <;> with_reducible rfl)
    try simp only [Act.put, List.setIfInBounds_toArray, List.set_cons_zero, List.set_cons_succ]
    refine takeL 4 (v := ?_) rfl (by kernel_rfl) (by kernel_rfl) (by kernel_rfl) (fun _ _ _ h => h) (by rfl) (by assumption) ?_ ?_
    rotate_left
    · (intro w hSw; (try dsimp only at hSw); go_simp <;> with_reducible rfl)
    try simp only [Act.put, List.setIfInBounds_toArray, List.set_cons_zero, List.set_cons_succ]
    refine takeL 5 (v := ?_) rfl (by kernel_rfl) (by kernel_rfl) (by kernel_rfl) (fun _ _ _ h => h) (by rfl) (by assumption) ?_ ?_
    rotate_left
    · (intro w hSw; (try dsimp only at hSw); go_simp <;> with_reducible rfl)
    try simp only [Act.put, List.setIfInBounds_toArray, List.set_cons_zero, List.set_cons_succ]
    refine takeL 6 (v := ?_) rfl (by kernel_rfl) (by kernel_rfl) (by kernel_rfl) (fun _ _ _ h => h) (by rfl) (by assumption) ?_ ?_
    rotate_left
    · (intro w hSw; (try dsimp only at hSw); go_simp <;> with_reducible rfl)
    try simp only [Act.put, List.setIfInBounds_toArray, List.set_cons_zero, List.set_cons_succ]
    refine takeL 7 (v := ?_) rfl (by kernel_rfl) (by kernel_rfl) (by kernel_rfl) (fun _ _ _ h => h) (by rfl) (by assumption) ?_ ?_
    rotate_left
    · (intro w hSw; (try dsimp only at hSw); go_simp <;> with_reducible rfl)
    try simp only [Act.put, List.setIfInBounds_toArray, List.set_cons_zero, List.set_cons_succ]
    refine takeL 8 (v := ?_) rfl (by kernel_rfl) (by kernel_rfl) (by kernel_rfl) (fun _ _ _ h => h) (by rfl) (by assumption) ?_ ?_
    rotate_left
    · (intro w hSw; (try dsimp only at hSw); go_simp <;> with_reducible rfl)
    try simp only [Act.put, List.setIfInBounds_toArray, List.set_cons_zero, List.set_cons_succ]
    refine takeL 9 (v := ?_) rfl (by kernel_rfl) (by kernel_rfl) (by kernel_rfl) (fun _ _ _ h => h) (by rfl) (by assumption) ?_ ?_
    rotate_left
    · (intro w hSw; (try dsimp only at hSw); go_simp <;> with_reducible rfl)
    try simp only [Act.put, List.setIfInBounds_toArray, List.set_cons_zero, List.set_cons_succ]
    refine takeL 10 (v := ?_) rfl (by kernel_rfl) (by kernel_rfl) (by kernel_rfl) (fun _ _ _ h => h) (by rfl) (by assumption) ?_ ?_
    rotate_left
    · (intro w hSw; (try dsimp only at hSw); go_simp <;> with_reducible rfl)
    try simp only [Act.put, List.setIfInBounds_toArray, List.set_cons_zero, List.set_cons_succ]
    refine takeL 11 (v := ?_) rfl (by kernel_rfl) (by kernel_rfl) (by kernel_rfl) (fun _ _ _ h => h) (by rfl) (by assumption) ?_ ?_
    rotate_left
    · (intro w hSw; (try dsimp only at hSw); go_simp <;> with_reducible rfl)
    try simp only [Act.put, List.setIfInBounds_toArray, List.set_cons_zero, List.set_cons_succ]
    refine takeL 13 (v := ?_) rfl (by kernel_rfl) (by kernel_rfl) (by kernel_rfl) (fun _ _ _ h => h) (by rfl) (by assumption) ?_ ?_
    rotate_left
    · (intro w hSw; (try dsimp only at hSw); go_simp <;> with_reducible rfl)
    try simp only [Act.put, List.setIfInBounds_toArray, List.set_cons_zero, List.set_cons_succ]
    refine takeL 14 (v := ?_) rfl (by kernel_rfl) (by kernel_rfl) (by kernel_rfl) (fun _ _ _ h => h) (by rfl) (by assumption) ?_ ?_
    rotate_left
    · (intro w hSw; (try dsimp only at hSw); go_simp <;> with_reducible rfl)
    try simp only [Act.put, List.setIfInBounds_toArray, List.set_cons_zero, List.set_cons_succ]
    refine takeL 15 (v := ?_) rfl (by kernel_rfl) (by kernel_rfl) (by kernel_rfl) (fun _ _ _ h => h) (by rfl) (by assumption) ?_ ?_
    rotate_left
    · (intro w hSw; (try dsimp only at hSw); go_simp <;> with_reducible rfl)
    try simp only [Act.put, List.setIfInBounds_toArray, List.set_cons_zero, List.set_cons_succ]
    refine oneL 12 rfl (by kernel_rfl) (fun K hK => ?_)
    go_simp
    (go_at_call 11; (with_reducible refine (hX.out _ hHeld.2.2.2.2.2).mono ?_); rintro e w8 ⟨rfl, hb⟩)
    refine hK.out _ _ ?_ (fun hHeld2 => ?_)
    · (try dsimp only)
      first | exact ⟨p0, p1, q0, q1, hB5.drew, (Below.refl _ _).drew⟩ | exact ⟨cellK hHeld.1 hb, cellK hHeld.2.1 hb, cellK hHeld.2.2.1 hb, cellK hHeld.2.2.2.1 hb, hHeld.2.2.2.2.1.trans (hb.mono hHeld.2.2.2.2.1.size), hHeld.2.2.2.2.2.trans (hb.mono (Nat.le_trans hBs hHeld.2.2.2.2.2.size))⟩
    clear hK K hHeld
    have hHeld := hHeld2
    clear hHeld2
    try simp only [Act.put, List.setIfInBounds_toArray, List.set_cons_zero, List.set_cons_succ]
    refine takeL 16 (v := ?_) rfl (by kernel_rfl) (by kernel_rfl) (by kernel_rfl) (fun _ _ _ h => h) (by rfl) (by assumption) ?_ ?_
    rotate_left
    · (intro w hSw; (try dsimp only at hSw); go_simp <;> with_reducible rfl)
    try simp only [Act.put, List.setIfInBounds_toArray, List.set_cons_zero, List.set_cons_succ]
    refine takeL 17 (v := ?_) rfl (by kernel_rfl) (by kernel_rfl) (by kernel_rfl) (fun _ _ _ h => h) (by rfl) (by assumption) ?_ ?_
    rotate_left
    · (intro w hSw; (try dsimp only at hSw); go_simp <;> with_reducible rfl)
    try simp only [Act.put, List.setIfInBounds_toArray, List.set_cons_zero, List.set_cons_succ]
    refine takeL 18 (v := ?_) rfl (by kernel_rfl) (by kernel_rfl) (by kernel_rfl) (fun _ _ _ h => h) (by rfl) (by assumption) ?_ ?_
    rotate_left
    · (intro w hSw; (try dsimp only at hSw); go_simp <;> with_reducible rfl)
    try simp only [Act.put, List.setIfInBounds_toArray, List.set_cons_zero, List.set_cons_succ]
    refine wpAnyH_done (by kernel_rfl) ?_ _
    go_wp2_with fail
    go_ret
    exact ⟨rfl, hHeld.2.2.2.2.1⟩
  · subst c1
    rw [decide_eq_false (fun hh => c2 (headW_inj hh).2)] at hX
    have e1 : ((L1 : Int) == (L2 : Int)) = false := by rw [beq_eq_false_iff_ne]; omega
    replace c2 := Lib.hid c2
    refine wp_region_held_drew (S := (fun w' => w'.cell? ⟨g1, 0, none⟩ = some (.int .i64 W1) ∧ w'.cell? ⟨g1, 1, none⟩ = some (.int .i64 L1) ∧ w'.cell? ⟨g2, 0, none⟩ = some (.int .i64 W1) ∧ w'.cell? ⟨g2, 1, none⟩ = some (.int .i64 L2) ∧ Below w.heap.size w w' ∧ Below B w5 w')) (by kernel_rfl) ?_ (fun hHeld => ?_)
    · (try dsimp only)
      first | exact ⟨p0, p1, q0, q1, hB5.drew, (Below.refl _ _).drew⟩ | exact ⟨cellK hHeld.1 hb, cellK hHeld.2.1 hb, cellK hHeld.2.2.1 hb, cellK hHeld.2.2.2.1 hb, hHeld.2.2.2.2.1.trans (hb.mono hHeld.2.2.2.2.1.size), hHeld.2.2.2.2.2.trans (hb.mono (Nat.le_trans hBs hHeld.2.2.2.2.2.size))⟩
    refine takeL 0 (v := ?_) rfl (by kernel_rfl) (by kernel_rfl) (by kernel_rfl) (fun _ _ _ h => h) (by rfl) (by assumption) ?_ ?_
    rotate_left
    · (intro w hSw; (try dsimp only at hSw); go_simp <;> with_reducible rfl)
    try simp only [Act.put, List.setIfInBounds_toArray, List.set_cons_zero, List.set_cons_succ]
    refine takeL 1 (v := ?_) rfl (by kernel_rfl) (by kernel_rfl) (by kernel_rfl) (fun _ _ _ h => h) (by rfl) (by assumption) ?_ ?_
    rotate_left
    · (intro w hSw; (try dsimp only at hSw); go_simp <;> with_reducible rfl)
    try simp only [Act.put, List.setIfInBounds_toArray, List.set_cons_zero, List.set_cons_succ]
    refine takeL 2 (v := ?_) rfl (by kernel_rfl) (by kernel_rfl) (by kernel_rfl) (fun _ _ _ h => h) (by rfl) (by assumption) ?_ ?_
    rotate_left
    · (intro w hSw; (try dsimp only at hSw); go_simp <;> with_reducible rfl)
    try simp only [Act.put, List.setIfInBounds_toArray, List.set_cons_zero, List.set_cons_succ]
    refine takeL 3 (v := ?_) rfl (by kernel_rfl) (by kernel_rfl) (by kernel_rfl) (fun _ _ _ h => h) (by rfl) (by assumption) ?_ ?_
    rotate_left
    · (intro w hSw; (try dsimp only at hSw); go_simp <;> with_reducible rfl)
    try simp only [Act.put, List.setIfInBounds_toArray, List.set_cons_zero, List.set_cons_succ]
    refine takeL 4 (v := ?_) rfl (by kernel_rfl) (by kernel_rfl) (by kernel_rfl) (fun _ _ _ h => h) (by rfl) (by assumption) ?_ ?_
    rotate_left
    · (intro w hSw; (try dsimp only at hSw); go_simp <;> with_reducible rfl)
    try simp only [Act.put, List.setIfInBounds_toArray, List.set_cons_zero, List.set_cons_succ]
    refine takeL 5 (v := ?_) rfl (by kernel_rfl) (by kernel_rfl) (by kernel_rfl) (fun _ _ _ h => h) (by rfl) (by assumption) ?_ ?_
    rotate_left
    · (intro w hSw; (try dsimp only at hSw); go_simp <;> with_reducible rfl)
    try simp only [Act.put, List.setIfInBounds_toArray, List.set_cons_zero, List.set_cons_succ]
    refine takeL 6 (v := ?_) rfl (by kernel_rfl) (by kernel_rfl) (by kernel_rfl) (fun _ _ _ h => h) (by rfl) (by assumption) ?_ ?_
    rotate_left
    · (intro w hSw; (try dsimp only at hSw); go_simp <;> with_reducible rfl)
    try simp only [Act.put, List.setIfInBounds_toArray, List.set_cons_zero, List.set_cons_succ]
    refine takeL 7 (v := ?_) rfl (by kernel_rfl) (by kernel_rfl) (by kernel_rfl) (fun _ _ _ h => h) (by rfl) (by assumption) ?_ ?_
    rotate_left
    · (intro w hSw; (try dsimp only at hSw); go_simp <;> with_reducible rfl)
    try simp only [Act.put, List.setIfInBounds_toArray, List.set_cons_zero, List.set_cons_succ]
    refine takeL 8 (v := ?_) rfl (by kernel_rfl) (by kernel_rfl) (by kernel_rfl) (fun _ _ _ h => h) (by rfl) (by assumption) ?_ ?_
    rotate_left
    · (intro w hSw; (try dsimp only at hSw); go_simp <;> with_reducible rfl)
    try simp only [Act.put, List.setIfInBounds_toArray, List.set_cons_zero, List.set_cons_succ]
    refine takeL 9 (v := ?_) rfl (by kernel_rfl) (by kernel_rfl) (by kernel_rfl) (fun _ _ _ h => h) (by rfl) (by assumption) ?_ ?_
    rotate_left
    · (intro w hSw; (try dsimp only at hSw); go_simp <;> with_reducible rfl)
    try simp only [Act.put, List.setIfInBounds_toArray, List.set_cons_zero, List.set_cons_succ]
    refine takeL 10 (v := ?_) rfl (by kernel_rfl) (by kernel_rfl) (by kernel_rfl) (fun _ _ _ h => h) (by rfl) (by assumption) ?_ ?_
    rotate_left
    · (intro w hSw; (try dsimp only at hSw); go_simp <;> with_reducible rfl)
    try simp only [Act.put, List.setIfInBounds_toArray, List.set_cons_zero, List.set_cons_succ]
    refine takeL 11 (v := ?_) rfl (by kernel_rfl) (by kernel_rfl) (by kernel_rfl) (fun _ _ _ h => h) (by rfl) (by assumption) ?_ ?_
    rotate_left
    · (intro w hSw; (try dsimp only at hSw); go_simp <;> with_reducible rfl)
    try simp only [Act.put, List.setIfInBounds_toArray, List.set_cons_zero, List.set_cons_succ]
    refine takeL 13 (v := ?_) rfl (by kernel_rfl) (by kernel_rfl) (by kernel_rfl) (fun _ _ _ h => h) (by rfl) (by assumption) ?_ ?_
    rotate_left
    · (intro w hSw; (try dsimp only at hSw); go_simp <;> with_reducible rfl)
    try simp only [Act.put, List.setIfInBounds_toArray, List.set_cons_zero, List.set_cons_succ]
    refine takeL 14 (v := ?_) rfl (by kernel_rfl) (by kernel_rfl) (by kernel_rfl) (fun _ _ _ h => h) (by rfl) (by assumption) ?_ ?_
    rotate_left
    · (intro w hSw; (try dsimp only at hSw); go_simp <;> with_reducible rfl)
    try simp only [Act.put, List.setIfInBounds_toArray, List.set_cons_zero, List.set_cons_succ]
    refine takeL 15 (v := ?_) rfl (by kernel_rfl) (by kernel_rfl) (by kernel_rfl) (fun _ _ _ h => h) (by rfl) (by assumption) ?_ ?_
    rotate_left
    · (intro w hSw; (try dsimp only at hSw); go_simp <;> with_reducible rfl)
    try simp only [Act.put, List.setIfInBounds_toArray, List.set_cons_zero, List.set_cons_succ]
    refine oneL 12 rfl (by kernel_rfl) (fun K hK => ?_)
    go_simp
    (go_at_call 11; (with_reducible refine (hX.out _ hHeld.2.2.2.2.2).mono ?_); rintro e w8 ⟨rfl, hb⟩)
    refine hK.out _ _ ?_ (fun hHeld2 => ?_)
    · (try dsimp only)
      first | exact ⟨p0, p1, q0, q1, hB5.drew, (Below.refl _ _).drew⟩ | exact ⟨cellK hHeld.1 hb, cellK hHeld.2.1 hb, cellK hHeld.2.2.1 hb, cellK hHeld.2.2.2.1 hb, hHeld.2.2.2.2.1.trans (hb.mono hHeld.2.2.2.2.1.size), hHeld.2.2.2.2.2.trans (hb.mono (Nat.le_trans hBs hHeld.2.2.2.2.2.size))⟩
    clear hK K hHeld
    have hHeld := hHeld2
    clear hHeld2
    try simp only [Act.put, List.setIfInBounds_toArray, List.set_cons_zero, List.set_cons_succ]
    refine takeL 16 (v := ?_) rfl (by kernel_rfl) (by kernel_rfl) (by kernel_rfl) (fun _ _ _ h => h) (by rfl) (by assumption) ?_ ?_
    rotate_left
    · (intro w hSw; (try dsimp only at hSw); go_simp <;> with_reducible rfl)
    try simp only [Act.put, List.setIfInBounds_toArray, List.set_cons_zero, List.set_cons_succ]
    refine takeL 17 (v := ?_) rfl (by kernel_rfl) (by kernel_rfl) (by kernel_rfl) (fun _ _ _ h => h) (by rfl) (by assumption) ?_ ?_
    rotate_left
    · (intro w hSw; (try dsimp only at hSw); go_simp <;> with_reducible rfl)
    try simp only [Act.put, List.setIfInBounds_toArray, List.set_cons_zero, List.set_cons_succ]
    refine takeL 18 (v := ?_) rfl (by kernel_rfl) (by kernel_rfl) (by kernel_rfl) (fun _ _ _ h => h) (by rfl) (by assumption) ?_ ?_
    rotate_left
    · (intro w hSw; (try dsimp only at hSw); go_simp <;> with_reducible rfl)
    try simp only [Act.put, List.setIfInBounds_toArray, List.set_cons_zero, List.set_cons_succ]
    refine wpAnyH_done (by kernel_rfl) ?_ _
    go_wp2_with fail
    go_ret
    exact ⟨rfl, hHeld.2.2.2.2.1⟩
  · rw [decide_eq_false (fun hh => c1 (headW_inj hh).1)] at hX
    have e1 : ((W1 : Int) == (W2 : Int)) = false := by rw [beq_eq_false_iff_ne]; omega
    replace c1 := Lib.hid c1
    refine wp_region_held_drew (S := (fun w' => w'.cell? ⟨g1, 0, none⟩ = some (.int .i64 W1) ∧ w'.cell? ⟨g1, 1, none⟩ = some (.int .i64 L1) ∧ w'.cell? ⟨g2, 0, none⟩ = some (.int .i64 W2) ∧ w'.cell? ⟨g2, 1, none⟩ = some (.int .i64 L2) ∧ Below w.heap.size w w' ∧ Below B w5 w')) (by kernel_rfl) ?_ (fun hHeld => ?_)
    · (try dsimp only)
      first | exact ⟨p0, p1, q0, q1, hB5.drew, (Below.refl _ _).drew⟩ | exact ⟨cellK hHeld.1 hb, cellK hHeld.2.1 hb, cellK hHeld.2.2.1 hb, cellK hHeld.2.2.2.1 hb, hHeld.2.2.2.2.1.trans (hb.mono hHeld.2.2.2.2.1.size), hHeld.2.2.2.2.2.trans (hb.mono (Nat.le_trans hBs hHeld.2.2.2.2.2.size))⟩
    refine takeL 0 (v := ?_) rfl (by kernel_rfl) (by kernel_rfl) (by kernel_rfl) (fun _ _ _ h => h) (by rfl) (by assumption) ?_ ?_
    rotate_left
    · (intro w hSw; (try dsimp only at hSw); go_simp <;> with_reducible rfl)
    try simp only [Act.put, List.setIfInBounds_toArray, List.set_cons_zero, List.set_cons_succ]
    refine takeL 1 (v := ?_) rfl (by kernel_rfl) (by kernel_rfl) (by kernel_rfl) (fun _ _ _ h => h) (by rfl) (by assumption) ?_ ?_
    rotate_left
    · (intro w hSw; (try dsimp only at hSw); go_simp <;> with_reducible rfl)
    try simp only [Act.put, List.setIfInBounds_toArray, List.set_cons_zero, List.set_cons_succ]
    refine takeL 2 (v := ?_) rfl (by kernel_rfl) (by kernel_rfl) (by kernel_rfl) (fun _ _ _ h => h) (by rfl) (by assumption) ?_ ?_
    rotate_left
    · (intro w hSw; (try dsimp only at hSw); go_simp <;> with_reducible rfl)
    try simp only [Act.put, List.setIfInBounds_toArray, List.set_cons_zero, List.set_cons_succ]
    refine takeL 3 (v := ?_) rfl (by kernel_rfl) (by kernel_rfl) (by kernel_rfl) (fun _ _ _ h => h) (by rfl) (by assumption) ?_ ?_
    rotate_left
    · (intro w hSw; (try dsimp only at hSw); go_simp <;> with_reducible rfl)
    try simp only [Act.put, List.setIfInBounds_toArray, List.set_cons_zero, List.set_cons_succ]
    refine takeL 4 (v := ?_) rfl (by kernel_rfl) (by kernel_rfl) (by kernel_rfl) (fun _ _ _ h => h) (by rfl) (by assumption) ?_ ?_
    rotate_left
    · (intro w hSw; (try dsimp only at hSw); go_simp <;> with_reducible rfl)
    try simp only [Act.put, List.setIfInBounds_toArray, List.set_cons_zero, List.set_cons_succ]
    refine takeL 5 (v := ?_) rfl (by kernel_rfl) (by kernel_rfl) (by kernel_rfl) (fun _ _ _ h => h) (by rfl) (by assumption) ?_ ?_
    rotate_left
    · (intro w hSw; (try dsimp only at hSw); go_simp <;> with_reducible rfl)
    try simp only [Act.put, List.setIfInBounds_toArray, List.set_cons_zero, List.set_cons_succ]
    refine takeL 6 (v := ?_) rfl (by kernel_rfl) (by kernel_rfl) (by kernel_rfl) (fun _ _ _ h => h) (by rfl) (by assumption) ?_ ?_
    rotate_left
    · (intro w hSw; (try dsimp only at hSw); go_simp <;> with_reducible rfl)
    try simp only [Act.put, List.setIfInBounds_toArray, List.set_cons_zero, List.set_cons_succ]
    refine takeL 7 (v := ?_) rfl (by kernel_rfl) (by kernel_rfl) (by kernel_rfl) (fun _ _ _ h => h) (by rfl) (by assumption) ?_ ?_
    rotate_left
    · (intro w hSw; (try dsimp only at hSw); go_simp <;> with_reducible rfl)
    try simp only [Act.put, List.setIfInBounds_toArray, List.set_cons_zero, List.set_cons_succ]
    refine takeL 8 (v := ?_) rfl (by kernel_rfl) (by kernel_rfl) (by kernel_rfl) (fun _ _ _ h => h) (by rfl) (by assumption) ?_ ?_
    rotate_left
    · (intro w hSw; (try dsimp only at hSw); go_simp <;> with_reducible rfl)
    try simp only [Act.put, List.setIfInBounds_toArray, List.set_cons_zero, List.set_cons_succ]
    refine takeL 9 (v := ?_) rfl (by kernel_rfl) (by kernel_rfl) (by kernel_rfl) (fun _ _ _ h => h) (by rfl) (by assumption) ?_ ?_
    rotate_left
    · (intro w hSw; (try dsimp only at hSw); go_simp <;> with_reducible rfl)
    try simp only [Act.put, List.setIfInBounds_toArray, List.set_cons_zero, List.set_cons_succ]
    refine takeL 10 (v := ?_) rfl (by kernel_rfl) (by kernel_rfl) (by kernel_rfl) (fun _ _ _ h => h) (by rfl) (by assumption) ?_ ?_
    rotate_left
    · (intro w hSw; (try dsimp only at hSw); go_simp <;> with_reducible rfl)
    try simp only [Act.put, List.setIfInBounds_toArray, List.set_cons_zero, List.set_cons_succ]
    refine takeL 11 (v := ?_) rfl (by kernel_rfl) (by kernel_rfl) (by kernel_rfl) (fun _ _ _ h => h) (by rfl) (by assumption) ?_ ?_
    rotate_left
    · (intro w hSw; (try dsimp only at hSw); go_simp <;> with_reducible rfl)
    try simp only [Act.put, List.setIfInBounds_toArray, List.set_cons_zero, List.set_cons_succ]
    refine takeL 13 (v := ?_) rfl (by kernel_rfl) (by kernel_rfl) (by kernel_rfl) (fun _ _ _ h => h) (by rfl) (by assumption) ?_ ?_
    rotate_left
    · (intro w hSw; (try dsimp only at hSw); go_simp <;> with_reducible rfl)
    try simp only [Act.put, List.setIfInBounds_toArray, List.set_cons_zero, List.set_cons_succ]
    refine takeL 14 (v := ?_) rfl (by kernel_rfl) (by kernel_rfl) (by kernel_rfl) (fun _ _ _ h => h) (by rfl) (by assumption) ?_ ?_
    rotate_left
    · (intro w hSw; (try dsimp only at hSw); go_simp <;> with_reducible rfl)
    try simp only [Act.put, List.setIfInBounds_toArray, List.set_cons_zero, List.set_cons_succ]
    refine takeL 15 (v := ?_) rfl (by kernel_rfl) (by kernel_rfl) (by kernel_rfl) (fun _ _ _ h => h) (by rfl) (by assumption) ?_ ?_
    rotate_left
    · (intro w hSw; (try dsimp only at hSw); go_simp <;> with_reducible rfl)
    try simp only [Act.put, List.setIfInBounds_toArray, List.set_cons_zero, List.set_cons_succ]
    refine oneL 12 rfl (by kernel_rfl) (fun K hK => ?_)
    go_simp
    (go_at_call 11; (with_reducible refine (hX.out _ hHeld.2.2.2.2.2).mono ?_); rintro e w8 ⟨rfl, hb⟩)
    refine hK.out _ _ ?_ (fun hHeld2 => ?_)
    · (try dsimp only)
      first | exact ⟨p0, p1, q0, q1, hB5.drew, (Below.refl _ _).drew⟩ | exact ⟨cellK hHeld.1 hb, cellK hHeld.2.1 hb, cellK hHeld.2.2.1 hb, cellK hHeld.2.2.2.1 hb, hHeld.2.2.2.2.1.trans (hb.mono hHeld.2.2.2.2.1.size), hHeld.2.2.2.2.2.trans (hb.mono (Nat.le_trans hBs hHeld.2.2.2.2.2.size))⟩
    clear hK K hHeld
    have hHeld := hHeld2
    clear hHeld2
    try simp only [Act.put, List.setIfInBounds_toArray, List.set_cons_zero, List.set_cons_succ]
    refine takeL 16 (v := ?_) rfl (by kernel_rfl) (by kernel_rfl) (by kernel_rfl) (fun _ _ _ h => h) (by rfl) (by assumption) ?_ ?_
    rotate_left
    · (intro w hSw; (try dsimp only at hSw); go_simp <;> with_reducible rfl)
    try simp only [Act.put, List.setIfInBounds_toArray, List.set_cons_zero, List.set_cons_succ]
    refine takeL 17 (v := ?_) rfl (by kernel_rfl) (by kernel_rfl) (by kernel_rfl) (fun _ _ _ h => h) (by rfl) (by assumption) ?_ ?_
    rotate_left
    · (intro w hSw; (try dsimp only at hSw); go_simp <;> with_reducible rfl)
    try simp only [Act.put, List.setIfInBounds_toArray, List.set_cons_zero, List.set_cons_succ]
    refine takeL 18 (v := ?_) rfl (by kernel_rfl) (by kernel_rfl) (by kernel_rfl) (fun _ _ _ h => h) (by rfl) (by assumption) ?_ ?_
    rotate_left
    · (intro w hSw; (try dsimp only at hSw); go_simp <;> with_reducible rfl)
    try simp only [Act.put, List.setIfInBounds_toArray, List.set_cons_zero, List.set_cons_succ]
    refine wpAnyH_done (by kernel_rfl) ?_ _
    go_wp2_with fail
    go_ret
    exact ⟨rfl, hHeld.2.2.2.2.1⟩
theorem superUnlike (a b c a' b' c' : Int) (w : World) (h1 : 0 ≤ a) (h2 : a ≤ 255) (h3 : 0 ≤ b) (h4 : b ≤ 255) (h5 : 0 ≤ c) (h6 : c ≤ 255) (h7 : 0 ≤ a') (h8 : a' ≤ 255) (h9 : 0 ≤ b') (h10 : b' ≤ 255) (h11 : 0 ≤ c') (h12 : c' ≤ 255) :
    Calls Try.prog 7 #[.int .u8 a, .int .u8 b, .int .u8 c, .int .u8 a', .int .u8 b', .int .u8 c'] w fun e w' => e = .returned (.bool true) ∧ Below w.heap.size w w' := by
  obtain ⟨W1, L1, G1, n1, n2, n3, n4⟩ := small_nat a b c h1 h3 h5
  obtain ⟨W2, L2, G2, m1, m2, m3, m4⟩ := small_nat a' b' c' h7 h9 h11
  exact superUnlike_in a b c a' b' c' W1 L1 G1 W2 L2 G2 w n1 n2 n3 n4 m1 m2 m3 m4 (fun e1 e2 => by subst e1; subst e2; omega) h1 h2 h3 h4 h5 h6 h7 h8 h9 h10 h11 h12
end Go.Proofs.Ytjmilngndoiceaa
