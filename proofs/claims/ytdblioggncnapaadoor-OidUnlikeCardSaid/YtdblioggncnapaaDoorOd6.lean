/-
  Package oid: headers (the code's Right, first, Encode).
-/
import Derived.Test.YtdblioggncnapaaDoorOd5
import Derived.Test.YtdblioggncnapaaDoorOdH
import Derived.Test.YtdblioggncnapaaDoorField
import Derived.Test.YtdblioggncnapaaDoorGt
set_option linter.unusedVariables false
set_option linter.unusedSimpArgs false
set_option maxRecDepth 100000
namespace Go.Proofs.YtdblioggncnapaaDoor
open Go.RowKit
theorem hd_t {t s n : Int} : hdB t s n = true ↔ (1 ≤ t ∧ t ≤ 65535 ∧ 0 ≤ s ∧ s ≤ 4096 ∧ ¬ n = 0) := by unfold hdB; rw [decide_eq_true_eq]
theorem hd_f {t s n : Int} (h : ¬ (1 ≤ t ∧ t ≤ 65535 ∧ 0 ≤ s ∧ s ≤ 4096 ∧ ¬ n = 0)) : hdB t s n = false := decide_eq_false h
set_option maxHeartbeats 1000000 in
theorem right_any (t s n : Int) (w : World) (hn : 0 ≤ n) : Calls Tryd.prog 14 #[nV t s n] w fun e w' => e = .returned (.bool (hdB t s n)) ∧ Below w.heap.size w w' := by
  unfold nV
  by_cases k1 : 1 ≤ t
  · by_cases k2 : t ≤ 65535
    · by_cases k3 : 0 ≤ s
      · by_cases k4 : s ≤ 4096
        · by_cases k5 : n = 0
          · rw [hd_f (by omega)]
            subst k5
            clear hn
            have j1 : t ≥ 1 := by omega
            have j2 : t ≤ 65535 := by omega
            go_enter Tryd.func14, Tryd.ntmps14
            go_wp2_with fail
            go_ret
            exact ⟨rfl, by go_grown⟩
          · rw [hd_t.2 ⟨k1, k2, k3, k4, k5⟩]
            have j1 : t ≥ 1 := by omega
            have j2 : t ≤ 65535 := by omega
            have j5 : 0 < n := by omega
            go_enter Tryd.func14, Tryd.ntmps14
            go_wp2_with fail
            go_ret
            exact ⟨by first | rfl | (refine ret_b ?_; first | (simp; omega) | (simp [k5]; done)), by go_grown⟩
        · rw [hd_f (by omega)]
          have j1 : t ≥ 1 := by omega
          have j2 : t ≤ 65535 := by omega
          have k4' : 4096 < s := by omega
          go_enter Tryd.func14, Tryd.ntmps14
          go_wp2_with fail
          go_ret
          exact ⟨rfl, by go_grown⟩
      · rw [hd_f (by omega)]
        have j1 : t ≥ 1 := by omega
        have j2 : t ≤ 65535 := by omega
        have k3' : s < 0 := by omega
        go_enter Tryd.func14, Tryd.ntmps14
        go_wp2_with fail
        go_ret
        exact ⟨rfl, by go_grown⟩
    · rw [hd_f (by omega)]
      have j1 : t ≥ 1 := by omega
      have j2 : ¬ (t ≤ 65535) := by omega
      go_enter Tryd.func14, Tryd.ntmps14
      go_wp2_with fail
      go_ret
      exact ⟨rfl, by go_grown⟩
  · rw [hd_f (by omega)]
    have j1 : ¬ (t ≥ 1) := by omega
    go_enter Tryd.func14, Tryd.ntmps14
    go_wp2_with fail
    go_ret
    exact ⟨rfl, by go_grown⟩
set_option maxHeartbeats 1000000 in
theorem refRight_any (t s n : Int) (w : World) (hn : 0 ≤ n) : Calls Tryd.prog 15 #[nV t s n] w fun e w' => e = .returned (.bool (hdB t s n)) ∧ Below w.heap.size w w' := by
  unfold nV
  by_cases k1 : 1 ≤ t
  · by_cases k2 : t ≤ 65535
    · by_cases k3 : 0 ≤ s
      · by_cases k4 : s ≤ 4096
        · by_cases k5 : n = 0
          · rw [hd_f (by omega)]
            subst k5
            clear hn
            have j1 : t > 0 := by omega
            have j2 : t < 65536 := by omega
            go_enter Tryd.func15, Tryd.ntmps15
            go_wp2_with fail
            go_ret
            exact ⟨rfl, by go_grown⟩
          · rw [hd_t.2 ⟨k1, k2, k3, k4, k5⟩]
            have j1 : t > 0 := by omega
            have j2 : t < 65536 := by omega
            have j5 : 0 < n := by omega
            go_enter Tryd.func15, Tryd.ntmps15
            go_wp2_with fail
            go_ret
            exact ⟨by first | rfl | (refine ret_b ?_; first | (simp; omega) | (simp [k5]; done)), by go_grown⟩
        · rw [hd_f (by omega)]
          have j1 : t > 0 := by omega
          have j2 : t < 65536 := by omega
          have k4' : 4096 < s := by omega
          go_enter Tryd.func15, Tryd.ntmps15
          go_wp2_with fail
          go_ret
          exact ⟨rfl, by go_grown⟩
      · rw [hd_f (by omega)]
        have j1 : t > 0 := by omega
        have j2 : t < 65536 := by omega
        have k3' : s < 0 := by omega
        go_enter Tryd.func15, Tryd.ntmps15
        go_wp2_with fail
        go_ret
        exact ⟨rfl, by go_grown⟩
    · rw [hd_f (by omega)]
      have j1 : t > 0 := by omega
      have j2 : ¬ (t < 65536) := by omega
      go_enter Tryd.func15, Tryd.ntmps15
      go_wp2_with fail
      go_ret
      exact ⟨rfl, by go_grown⟩
  · rw [hd_f (by omega)]
    have j1 : ¬ (t > 0) := by omega
    go_enter Tryd.func15, Tryd.ntmps15
    go_wp2_with fail
    go_ret
    exact ⟨rfl, by go_grown⟩
theorem pI1 {t : Nat} (h : t < 65536) : putI 0 0 16 (t : Nat) = (t : Int) := by
  unfold putI; rw [show (0 : Int).toNat = 0 from rfl, show (16 : Int).toNat = 16 from rfl, Int.toNat_natCast, put1 h]
theorem pI2 {t s : Nat} (h : t < 65536) (hs : s < 65536) : putI (t : Nat) 16 16 (s : Nat) = ((t + 65536 * s : Nat) : Int) := by
  unfold putI; rw [show (16 : Int).toNat = 16 from rfl, Int.toNat_natCast, Int.toNat_natCast, put2 h hs]
theorem pI3 {t s : Nat} (h : t < 65536) (hs : s < 65536) : putI ((t + 65536 * s : Nat) : Int) 48 16 64087 = ((hdW t s : Nat) : Int) := by
  unfold putI; rw [show (16 : Int).toNat = 16 from rfl, show (48 : Int).toNat = 48 from rfl, show (64087 : Int).toNat = 64087 from rfl, Int.toNat_natCast, put3 (by omega)]; rfl
set_option maxHeartbeats 1000000 in
theorem first_any (t s : Nat) (n : Int) (w : World) (h : t < 65536) (hs : s < 65536) : Calls Tryd.prog 21 #[nV t s n] w fun e w' => e = .returned (.int .u64 (hdW t s : Nat)) ∧ Below w.heap.size w w' := by
  unfold nV
  have c1 : IntKind.u64.wrap (t : Int) = (t : Int) := by rw [IntKind.wrap_u64]; omega
  have c2 : IntKind.u64.wrap (s : Int) = (s : Int) := by rw [IntKind.wrap_u64]; omega
  have hP1 := Lib.hid (fun w => put_yes 0 0 16 (t : Nat) w (by omega) (by omega) (by omega) (by omega) (by omega) (by omega) (by omega) (by omega))
  have hP2 := Lib.hid (fun w => put_yes (t : Nat) 16 16 (s : Nat) w (by omega) (by omega) (by omega) (by omega) (by omega) (by omega) (by omega) (by omega))
  have hP3 := Lib.hid (fun w => put_yes ((t + 65536 * s : Nat) : Int) 48 16 64087 w (by omega) (by omega) (by omega) (by omega) (by omega) (by omega) (by omega) (by omega))
  rw [pI1 h] at hP1
  rw [pI2 h hs] at hP2
  rw [pI3 h hs] at hP3
  obtain ⟨x, hx⟩ : ∃ x : Nat, t + 65536 * s = x := ⟨_, rfl⟩
  obtain ⟨y, hy⟩ : ∃ y : Nat, hdW t s = y := ⟨_, rfl⟩
  rw [hx] at hP2 hP3
  rw [hy] at hP3 ⊢
  clear hx hy h hs
  go_enter Tryd.func21, Tryd.ntmps21
  go_wp2_with fail
  refine (hP1.out _).mono ?_
  rintro e w1 ⟨rfl, rfl⟩
  go_wp2_with fail
  refine (hP2.out _).mono ?_
  rintro e w1 ⟨rfl, rfl⟩
  go_wp2_with fail
  refine (hP3.out _).mono ?_
  rintro e w1 ⟨rfl, rfl⟩
  go_wp2_with fail
  go_ret
  exact ⟨rfl, by go_grown⟩
def C2 (w : World) (b : Nat) (x y : Value) : Prop := w.cell? ⟨b, 0, none⟩ = some x ∧ w.cell? ⟨b, 1, none⟩ = some y
theorem C2.lt {w : World} {b : Nat} {x y : Value} (h : C2 w b x y) : b < w.heap.size := World.block_lt_of_cell? w _ h.1
theorem C2.keep {W w1 : World} {b : Nat} {x y : Value} (h : C2 W b x y) (hb : Below W.heap.size W w1) : C2 w1 b x y := ⟨cellK h.1 hb, cellK h.2 hb⟩
theorem C2.new (w : World) (x y : Value) (t : TypeId) : C2 (w.alloc (.cells #[x, y] t)) w.heap.size x y := by
  refine ⟨?_, ?_⟩ <;> simp [go_sem]
set_option maxHeartbeats 1000000 in
theorem encode_yes (t s : Nat) (n : Int) (w : World) (hn : 0 ≤ n) (h : hdB t s n = true) : Calls Tryd.prog 9 #[nV t s n] w fun e w' => ∃ g, e = .returned (.tuple #[.slice (some ⟨g, 0, none⟩) 2 2, .int .i64 0]) ∧ w.heap.size ≤ g ∧ C2 w' g (.int .u64 (hdW t s : Nat)) (.int .u64 n) ∧ Below w.heap.size w w' := by
  have hh := hd_t.1 h
  have hR := Lib.hid (fun w => right_any t s n w hn)
  have hF := Lib.hid (fun w => first_any t s n w (by omega) (by omega))
  rw [h] at hR
  obtain ⟨y, hy⟩ : ∃ y : Nat, hdW t s = y := ⟨_, rfl⟩
  rw [hy] at hF ⊢
  clear hy hh h
  unfold nV at *
  go_enter Tryd.func9, Tryd.ntmps9
  go_wp2_with fail
  refine (hR.out _).mono ?_
  rintro e w1 ⟨rfl, hb⟩
  have hC := (C3.new w (.int .i64 (t : Nat)) (.int .i64 (s : Nat)) (.int .u64 n) 24).keep hb
  have hB : Below w.heap.size w w1 := ((Below.refl _ _).alloc (Nat.le_refl _) _).trans (hb.mono (by simp))
  have hl := hC.lt
  clear hb
  have hb1 : Below w.heap.size w w1.drew := ⟨hB.os, hB.tape, hB.output, hB.size, hB.block⟩
  have hS0 : w1.drew.cell? ⟨w.heap.size, 0, none⟩ = some (.int .i64 (t : Nat)) ∧ w1.drew.cell? ⟨w.heap.size, 1, none⟩ = some (.int .i64 (s : Nat)) ∧ w1.drew.cell? ⟨w.heap.size, 2, none⟩ = some (.int .u64 n) ∧ Below w.heap.size w w1.drew ∧ w.heap.size < w1.drew.heap.size := ⟨hC.1, hC.2.1, hC.2.2, hb1, hl⟩
  obtain ⟨c0, c1, c2⟩ := hC
  go_wp2_with fail
  refine wp_region_tail (S := (fun w' => w'.cell? ⟨w.heap.size, 0, none⟩ = some (.int .i64 (t : Nat)) ∧ w'.cell? ⟨w.heap.size, 1, none⟩ = some (.int .i64 (s : Nat)) ∧ w'.cell? ⟨w.heap.size, 2, none⟩ = some (.int .u64 n) ∧ Below w.heap.size w w' ∧ w.heap.size < w'.heap.size)) (n := 4) (by kernel_rfl) ?_ (fun hHeld hInv => ?_) (by decide)
  · (try dsimp only)
    (first | exact hS0 | (obtain ⟨q0, q1, q2, qB, qS⟩ := hHeld; exact ⟨cellK q0 hb, cellK q1 hb, cellK q2 hb, qB.trans (hb.mono (by omega)), Nat.lt_of_lt_of_le qS hb.size⟩))
  refine takeS 0 (v := ?_) (tailAt (by kernel_rfl)) hInv (by decide) rfl (by kernel_rfl) (by kernel_rfl) (by kernel_rfl) (fun _ _ _ h => h) (by rfl) (by assumption) ?_ (fun hInv2 => ?_)
  rotate_left
  · (intro w hSw; (try dsimp only at hSw); (try go_split_ands); go_simp <;> with_reducible rfl)
  clear hInv
  have hInv := hInv2
  clear hInv2
  try simp only [Act.put, List.setIfInBounds_toArray, List.set_cons_zero, List.set_cons_succ] at hInv ⊢
  refine takeS 2 (v := ?_) (tailAt (by kernel_rfl)) hInv (by decide) rfl (by kernel_rfl) (by kernel_rfl) (by kernel_rfl) (fun _ _ _ h => h) (by rfl) (by assumption) ?_ (fun hInv2 => ?_)
  rotate_left
  · (intro w hSw; (try dsimp only at hSw); (try go_split_ands); go_simp <;> with_reducible rfl)
  clear hInv
  have hInv := hInv2
  clear hInv2
  try simp only [Act.put, List.setIfInBounds_toArray, List.set_cons_zero, List.set_cons_succ] at hInv ⊢
  refine takeS 3 (v := ?_) (tailAt (by kernel_rfl)) hInv (by decide) rfl (by kernel_rfl) (by kernel_rfl) (by kernel_rfl) (fun _ _ _ h => h) (by rfl) (by assumption) ?_ (fun hInv2 => ?_)
  rotate_left
  · (intro w hSw; (try dsimp only at hSw); (try go_split_ands); go_simp <;> with_reducible rfl)
  clear hInv
  have hInv := hInv2
  clear hInv2
  try simp only [Act.put, List.setIfInBounds_toArray, List.set_cons_zero, List.set_cons_succ] at hInv ⊢
  refine oneS 1 hInv (by decide) rfl (by kernel_rfl) (fun K hK => ?_)
  go_simp
  (go_at_call 21; (with_reducible refine (hF.out _).mono ?_); rintro e w8 ⟨rfl, hb⟩)
  refine hK.out _ _ ?_ (fun hHeld2 hInv2 => ?_)
  · (try dsimp only)
    (first | exact hS0 | (obtain ⟨q0, q1, q2, qB, qS⟩ := hHeld; exact ⟨cellK q0 hb, cellK q1 hb, cellK q2 hb, qB.trans (hb.mono (by omega)), Nat.lt_of_lt_of_le qS hb.size⟩))
  clear hK K hHeld hInv
  have hHeld := hHeld2
  have hInv := hInv2
  clear hHeld2 hInv2
  try simp only [Act.put, List.setIfInBounds_toArray, List.set_cons_zero, List.set_cons_succ] at hInv ⊢
  refine lastS 4 rfl (by decide) (by kernel_rfl) (fun K hK => ?_)
  go_simp
  refine hK.out _ _ ?_
  clear hK K
  try simp only [Act.put, List.setIfInBounds_toArray, List.set_cons_zero, List.set_cons_succ]
  refine lastS 5 rfl (by decide) (by kernel_rfl) (fun K hK => ?_)
  go_simp
  refine hK.out _ _ ?_
  clear hK K
  try simp only [Act.put, List.setIfInBounds_toArray, List.set_cons_zero, List.set_cons_succ]
  refine lastS 6 rfl (by decide) (by kernel_rfl) (fun K hK => ?_)
  go_simp
  refine hK.out _ _ ?_
  clear hK K
  try simp only [Act.put, List.setIfInBounds_toArray, List.set_cons_zero, List.set_cons_succ]
  refine wpAnyS_done (by kernel_rfl) ?_ _
  obtain ⟨q0, q1, q2, qB, qS⟩ := hHeld
  go_wp2_with fail
  go_ret2
  exact ⟨_, rfl, by omega, C2.new _ _ _ _, qB.alloc (by omega) _⟩
set_option maxHeartbeats 1000000 in
theorem encode_no (t s n : Int) (w : World) (hn : 0 ≤ n) (h : hdB t s n = false) : Calls Tryd.prog 9 #[nV t s n] w fun e w' => e = .returned (.tuple #[.slice none 0 0, .int .i64 1]) ∧ Below w.heap.size w w' := by
  have hR := Lib.hid (fun w => right_any t s n w hn)
  rw [h] at hR
  clear h
  unfold nV at *
  go_enter Tryd.func9, Tryd.ntmps9
  go_wp2_with fail
  refine (hR.out _).mono ?_
  rintro e w1 ⟨rfl, hb⟩
  have hB : Below w.heap.size w w1 := ((Below.refl _ _).alloc (Nat.le_refl _) _).trans (hb.mono (by simp))
  clear hb
  go_wp2_with fail
  go_ret2
  exact ⟨rfl, hB⟩
end Go.Proofs.YtdblioggncnapaaDoor
