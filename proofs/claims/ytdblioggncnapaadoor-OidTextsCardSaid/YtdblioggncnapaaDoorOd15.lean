/-
  Package oid: the document's Text; OidTexts.
-/
import Derived.Test.YtdblioggncnapaaDoorOd14
set_option linter.unusedVariables false
set_option linter.unusedSimpArgs false
set_option maxRecDepth 100000
namespace Go.Proofs.YtdblioggncnapaaDoor
open Go.RowKit Go.Lib
set_option maxHeartbeats 1000000 in
theorem refText_any (a t n : Int) (w : World) (ha1 : a < 9223372036854775808) (ht1 : t < 9223372036854775808) (hn0 : 0 ≤ n) (hn1 : n < 18446744073709551616) :
    Calls Tryd.prog 19 #[nV a t n] w fun e w' => e = .returned (.string (textB a t n)) ∧ Below w.heap.size w w' := by
  unfold nV textB
  by_cases k1 : 0 ≤ a
  · by_cases k2 : 0 ≤ t
    · rw [if_pos ⟨k1, k2⟩]
      obtain ⟨a, rfl⟩ := Int.eq_ofNat_of_zero_le k1
      obtain ⟨t, rfl⟩ := Int.eq_ofNat_of_zero_le k2
      obtain ⟨n, rfl⟩ := Int.eq_ofNat_of_zero_le hn0
      have hI1 := Lib.hid (fun w => digits_any a (by omega) w)
      have hI2 := Lib.hid (fun w => digits_any t (by omega) w)
      have hI3 := Lib.hid (fun w => digits_any n (by omega) w)
      have v1 : IntKind.u64.wrap (a : Int) = (a : Int) := by rw [IntKind.wrap_u64]; omega
      have v2 : IntKind.u64.wrap (t : Int) = (t : Int) := by rw [IntKind.wrap_u64]; omega
      have hA := add3 (decDigits a) (decDigits t) (decDigits n)
      simp only [Int.toNat_natCast]
      have e1 : ¬ ((a : Int) < 0) := by omega
      have e2 : ¬ ((t : Int) < 0) := by omega
      unfold textL
      rw [← hA]
      clear hA
      go_enter Tryd.func19, Tryd.ntmps19
      go_wp2_with fail
      have hC0 := C3.new w (.int .i64 a) (.int .i64 t) (.int .u64 n) 36
      have hb0 := below1 w (.cells #[.int .i64 a, .int .i64 t, .int .u64 n] 36)
      have hb1 : Below w.heap.size w (w.alloc (.cells #[.int .i64 a, .int .i64 t, .int .u64 n] 36)).drew := hb0.drew
      have z1 : ¬ 9223372036854775807 < (decDigits a).length + 1 := by have := dec_len (u := a) (by omega); omega
      have z2 : ¬ 9223372036854775807 < (decDigits a).length + 1 + (decDigits t).length := by have := dec_len (u := a) (by omega); have := dec_len (u := t) (by omega); omega
      have z3 : ¬ 9223372036854775807 < (decDigits a).length + 1 + (decDigits t).length + 1 := by have := dec_len (u := a) (by omega); have := dec_len (u := t) (by omega); omega
      have z4 : ¬ 9223372036854775807 < (decDigits a).length + 1 + (decDigits t).length + 1 + (decDigits n).length := by have := dec_len (u := a) (by omega); have := dec_len (u := t) (by omega); have := dec_len (u := n) (by omega); omega
      refine wp_region_held_drew (S := (fun w' => w'.cell? ⟨w.heap.size, 0, none⟩ = some (.int .i64 (a : Nat)) ∧ w'.cell? ⟨w.heap.size, 1, none⟩ = some (.int .i64 (t : Nat)) ∧ w'.cell? ⟨w.heap.size, 2, none⟩ = some (.int .u64 (n : Nat)) ∧ Below w.heap.size w w' ∧ w.heap.size < w'.heap.size)) (by kernel_rfl) ?_ (fun hHeld => ?_)
      · (try dsimp only)
        (first | exact ⟨hC0.1, hC0.2.1, hC0.2.2, hb1, hC0.lt⟩ | (obtain ⟨q0, q1, q2, qB, qS⟩ := hHeld; exact ⟨cellK q0 hb, cellK q1 hb, cellK q2 hb, qB.trans (hb.mono (by omega)), Nat.lt_of_lt_of_le qS hb.size⟩))
      refine takeL 0 (v := ?_) rfl (by kernel_rfl) (by kernel_rfl) (by kernel_rfl) (fun _ _ _ h => h) (by rfl) (by assumption) ?_ ?_
      rotate_left
      · (intro w hSw; (try dsimp only at hSw); go_simp <;> with_reducible rfl)
      try simp only [Act.put, List.setIfInBounds_toArray, List.set_cons_zero, List.set_cons_succ]
      refine takeL 1 (v := ?_) rfl (by kernel_rfl) (by kernel_rfl) (by kernel_rfl) (fun _ _ _ h => h) (by rfl) (by assumption) ?_ ?_
      rotate_left
      · (intro w hSw; (try dsimp only at hSw); go_simp <;> with_reducible rfl)
      try simp only [Act.put, List.setIfInBounds_toArray, List.set_cons_zero, List.set_cons_succ]
      refine takeL 2 (v := ?_) rfl (by kernel_rfl) (by kernel_rfl) (by kernel_rfl) (fun _ _ _ h => h) (by rfl) (by assumption) ?_ ?_
      rotate_left
      · (intro w hSw; (try dsimp only at hSw); go_simp <;> with_reducible rfl)
      try simp only [Act.put, List.setIfInBounds_toArray, List.set_cons_zero, List.set_cons_succ]
      refine takeL 5 (v := ?_) rfl (by kernel_rfl) (by kernel_rfl) (by kernel_rfl) (fun _ _ _ h => h) (by rfl) (by assumption) ?_ ?_
      rotate_left
      · (intro w hSw; (try dsimp only at hSw); go_simp <;> with_reducible rfl)
      try simp only [Act.put, List.setIfInBounds_toArray, List.set_cons_zero, List.set_cons_succ]
      refine takeL 6 (v := ?_) rfl (by kernel_rfl) (by kernel_rfl) (by kernel_rfl) (fun _ _ _ h => h) (by rfl) (by assumption) ?_ ?_
      rotate_left
      · (intro w hSw; (try dsimp only at hSw); go_simp <;> with_reducible rfl)
      try simp only [Act.put, List.setIfInBounds_toArray, List.set_cons_zero, List.set_cons_succ]
      refine takeL 7 (v := ?_) rfl (by kernel_rfl) (by kernel_rfl) (by kernel_rfl) (fun _ _ _ h => h) (by rfl) (by assumption) ?_ ?_
      rotate_left
      · (intro w hSw; (try dsimp only at hSw); go_simp <;> with_reducible rfl)
      try simp only [Act.put, List.setIfInBounds_toArray, List.set_cons_zero, List.set_cons_succ]
      refine takeL 11 (v := ?_) rfl (by kernel_rfl) (by kernel_rfl) (by kernel_rfl) (fun _ _ _ h => h) (by rfl) (by assumption) ?_ ?_
      rotate_left
      · (intro w hSw; (try dsimp only at hSw); go_simp <;> with_reducible rfl)
      try simp only [Act.put, List.setIfInBounds_toArray, List.set_cons_zero, List.set_cons_succ]
      refine takeL 12 (v := ?_) rfl (by kernel_rfl) (by kernel_rfl) (by kernel_rfl) (fun _ _ _ h => h) (by rfl) (by assumption) ?_ ?_
      rotate_left
      · (intro w hSw; (try dsimp only at hSw); go_simp <;> with_reducible rfl)
      try simp only [Act.put, List.setIfInBounds_toArray, List.set_cons_zero, List.set_cons_succ]
      refine oneL 3 rfl (by kernel_rfl) (fun K hK => ?_)
      go_simp
      (go_at_call 28; (with_reducible refine (hI1.out _).mono ?_); rintro e w8 ⟨rfl, hb⟩)
      refine hK.out _ _ ?_ (fun hHeld2 => ?_)
      · (try dsimp only)
        (first | exact ⟨hC0.1, hC0.2.1, hC0.2.2, hb1, hC0.lt⟩ | (obtain ⟨q0, q1, q2, qB, qS⟩ := hHeld; exact ⟨cellK q0 hb, cellK q1 hb, cellK q2 hb, qB.trans (hb.mono (by omega)), Nat.lt_of_lt_of_le qS hb.size⟩))
      clear hK K hHeld
      have hHeld := hHeld2
      clear hHeld2
      try simp only [Act.put, List.setIfInBounds_toArray, List.set_cons_zero, List.set_cons_succ]
      refine takeL 4 (v := ?_) rfl (by kernel_rfl) (by kernel_rfl) (by kernel_rfl) (fun _ _ _ h => h) (by rfl) (by assumption) ?_ ?_
      rotate_left
      · (intro w hSw; (try dsimp only at hSw); go_simp <;> with_reducible rfl)
      try simp only [Act.put, List.setIfInBounds_toArray, List.set_cons_zero, List.set_cons_succ]
      refine oneL 8 rfl (by kernel_rfl) (fun K hK => ?_)
      go_simp
      (go_at_call 28; (with_reducible refine (hI2.out _).mono ?_); rintro e w8 ⟨rfl, hb⟩)
      refine hK.out _ _ ?_ (fun hHeld2 => ?_)
      · (try dsimp only)
        (first | exact ⟨hC0.1, hC0.2.1, hC0.2.2, hb1, hC0.lt⟩ | (obtain ⟨q0, q1, q2, qB, qS⟩ := hHeld; exact ⟨cellK q0 hb, cellK q1 hb, cellK q2 hb, qB.trans (hb.mono (by omega)), Nat.lt_of_lt_of_le qS hb.size⟩))
      clear hK K hHeld
      have hHeld := hHeld2
      clear hHeld2
      try simp only [Act.put, List.setIfInBounds_toArray, List.set_cons_zero, List.set_cons_succ]
      refine takeL 9 (v := ?_) rfl (by kernel_rfl) (by kernel_rfl) (by kernel_rfl) (fun _ _ _ h => h) (by rfl) (by assumption) ?_ ?_
      rotate_left
      · (intro w hSw; (try dsimp only at hSw); go_simp <;> with_reducible rfl)
      try simp only [Act.put, List.setIfInBounds_toArray, List.set_cons_zero, List.set_cons_succ]
      refine takeL 10 (v := ?_) rfl (by kernel_rfl) (by kernel_rfl) (by kernel_rfl) (fun _ _ _ h => h) (by rfl) (by assumption) ?_ ?_
      rotate_left
      · (intro w hSw; (try dsimp only at hSw); go_simp <;> with_reducible rfl)
      try simp only [Act.put, List.setIfInBounds_toArray, List.set_cons_zero, List.set_cons_succ]
      refine oneL 13 rfl (by kernel_rfl) (fun K hK => ?_)
      go_simp
      (go_at_call 28; (with_reducible refine (hI3.out _).mono ?_); rintro e w8 ⟨rfl, hb⟩)
      refine hK.out _ _ ?_ (fun hHeld2 => ?_)
      · (try dsimp only)
        (first | exact ⟨hC0.1, hC0.2.1, hC0.2.2, hb1, hC0.lt⟩ | (obtain ⟨q0, q1, q2, qB, qS⟩ := hHeld; exact ⟨cellK q0 hb, cellK q1 hb, cellK q2 hb, qB.trans (hb.mono (by omega)), Nat.lt_of_lt_of_le qS hb.size⟩))
      clear hK K hHeld
      have hHeld := hHeld2
      clear hHeld2
      try simp only [Act.put, List.setIfInBounds_toArray, List.set_cons_zero, List.set_cons_succ]
      refine takeL 14 (v := ?_) rfl (by kernel_rfl) (by kernel_rfl) (by kernel_rfl) (fun _ _ _ h => h) (by rfl) (by assumption) ?_ ?_
      rotate_left
      · (intro w hSw; (try dsimp only at hSw); go_simp <;> with_reducible rfl)
      try simp only [Act.put, List.setIfInBounds_toArray, List.set_cons_zero, List.set_cons_succ]
      refine takeL 15 (v := ?_) rfl (by kernel_rfl) (by kernel_rfl) (by kernel_rfl) (fun _ _ _ h => h) (by rfl) (by assumption) ?_ ?_
      rotate_left
      · (intro w hSw; (try dsimp only at hSw); go_simp <;> with_reducible rfl)
      try simp only [Act.put, List.setIfInBounds_toArray, List.set_cons_zero, List.set_cons_succ]
      refine wpAnyH_done (by kernel_rfl) ?_ _
      obtain ⟨q0, q1, q2, qB, qS⟩ := hHeld
      (try simp only [Exit.inBlock, Exit.then])
      go_wp2_with fail
      go_ret
      exact ⟨rfl, qB⟩
    · rw [if_neg (fun h => k2 h.2)]
      have e1 : ¬ (a < 0) := by omega
      have e2 : (t < 0) := by omega
      go_enter Tryd.func19, Tryd.ntmps19
      go_wp2_with fail
      go_ret
      exact ⟨rfl, by go_grown⟩
  · rw [if_neg (fun h => k1 h.1)]
    have e1 : (a < 0) := by omega
    go_enter Tryd.func19, Tryd.ntmps19
    go_wp2_with fail
    go_ret
    exact ⟨rfl, by go_grown⟩
/-- the name's block, the header's, the table, and what was there before -/
def Q2 (w w' : World) (o0 o1 o2 h0 h1 h2 : Int) : Prop := C3 w' w.heap.size (.int .i64 o0) (.int .i64 o1) (.int .u64 o2) ∧ C3 w' (w.heap.size + 1) (.int .i64 h0) (.int .i64 h1) (.int .u64 h2) ∧ Tb w' ∧ Below w.heap.size w w' ∧ w.heap.size ≤ w'.heap.size
theorem Q2.keep {w w1 w2 : World} {o0 o1 o2 h0 h1 h2 : Int} (h : Q2 w w1 o0 o1 o2 h0 h1 h2) (hb : Below w1.heap.size w1 w2) : Q2 w w2 o0 o1 o2 h0 h1 h2 := by
  obtain ⟨q0, q1, qT, qB, qS⟩ := h
  exact ⟨q0.keep hb, q1.keep hb, qT.next hb, qB.trans (hb.mono qS), Nat.le_trans qS hb.size⟩
set_option maxHeartbeats 2000000 in
theorem oidTexts (o0 o1 o2 : Int) (s : ByteArray) (at_ h0 h1 h2 : Int) (w : World) (ht : Tb w) (u0 : o0 < 9223372036854775808) (u1 : o1 < 9223372036854775808) (u2 : 0 ≤ o2) (v2 : o2 < 18446744073709551616) (hs : s.size ≤ maxLen) :
    Calls Tryd.prog 4 #[nV o0 o1 o2, .string s, .int .i64 at_, nV h0 h1 h2] w fun e w' => e = .returned (.bool true) ∧ Below w.heap.size w w' := by
  unfold maxLen at hs
  have hQ : Q2 w ((w.alloc (.cells #[.int .i64 o0, .int .i64 o1, .int .u64 o2] 36)).alloc (.cells #[.int .i64 h0, .int .i64 h1, .int .u64 h2] 24)) o0 o1 o2 h0 h1 h2 := by
    have b1 := below1 w (.cells #[.int .i64 o0, .int .i64 o1, .int .u64 o2] 36)
    have b2 := below1 (w.alloc (.cells #[.int .i64 o0, .int .i64 o1, .int .u64 o2] 36)) (.cells #[.int .i64 h0, .int .i64 h1, .int .u64 h2] 24)
    have b3 := b1.trans (b2.mono b1.size)
    refine ⟨(C3.new _ _ _ _ _).keep b2, ?_, ht.next b3, b3, b3.size⟩
    have h := C3.new (w.alloc (.cells #[.int .i64 o0, .int .i64 o1, .int .u64 o2] 36)) (.int .i64 h0) (.int .i64 h1) (.int .u64 h2) 24
    rw [World.size_alloc] at h
    exact h
  have hT1 := Lib.hid (fun w ht => text_any o0 o1 o2 w ht u0 u1 u2 v2)
  have hT2 := Lib.hid (fun w => refText_any o0 o1 o2 w u0 u1 u2 v2)
  have hNm := Lib.hid (fun w => name_any at_ h0 h1 h2 w)
  obtain ⟨X, hX⟩ : ∃ X, textB o0 o1 o2 = X := ⟨_, rfl⟩
  rw [hX] at hT1 hT2
  clear hX
  unfold nV at *
  by_cases hlong : 60 < s.size
  · have hl2 : (s.size : Int) > 60 := by omega
    clear hT1 hT2 hNm
    go_enter Tryd.func4, Tryd.ntmps4
    go_wp2_with fail
    refine (awake_any _ hQ.2.2.1).mono ?_
    rintro e w1 ⟨rfl, hb⟩
    replace hQ := hQ.keep hb
    clear hb
    go_wp2_with fail
    go_ret
    exact ⟨rfl, hQ.2.2.2.1⟩
  · have hl2 : ¬ (s.size : Int) > 60 := by omega
    have hP1 := Lib.hid (fun w => parse_any s w (by omega))
    have hP2 := Lib.hid (fun w => refParse_any s w (by omega))
    obtain ⟨p0, p1, p2, hp⟩ : ∃ p0 p1 p2 : Int, pV (parseO s.data.toList) = nV p0 p1 p2 := by
      cases parseO s.data.toList with
      | none => exact ⟨0, 0, 0, rfl⟩
      | some k => obtain ⟨a, b, c⟩ := k; exact ⟨a, b, c, rfl⟩
    obtain ⟨kd, hkd⟩ : ∃ b, (parseO s.data.toList).isSome = b := ⟨_, rfl⟩
    rw [hp, hkd] at hP1 hP2
    unfold nV at *
    clear hp hkd
    go_enter Tryd.func4, Tryd.ntmps4
    go_wp2_with fail
    refine (awake_any _ hQ.2.2.1).mono ?_
    rintro e w1 ⟨rfl, hb⟩
    replace hQ := hQ.keep hb
    clear hb
    go_wp2_with fail
    refine (hP1.out _).mono ?_
    rintro e w4 ⟨rfl, hb⟩
    have hb2 := hb.trans ((below1 w4 (.cells #[.int .i64 p0, .int .i64 p1, .int .u64 p2] 36)).mono hb.size)
    replace hQ := hQ.keep hb2
    have hCc := C3.new w4 (.int .i64 p0) (.int .i64 p1) (.int .u64 p2) 36
    clear hb hb2
    obtain ⟨Bc, hBc⟩ : ∃ B, w4.heap.size = B := ⟨_, rfl⟩
    rw [hBc] at hCc
    go_wp2_with fail
    try rw [hBc]
    clear hBc
    refine (hP2.out _).mono ?_
    rintro e w5 ⟨rfl, hb⟩
    have hb2 := hb.trans ((below1 w5 (.cells #[.int .i64 p0, .int .i64 p1, .int .u64 p2] 36)).mono hb.size)
    replace hQ := hQ.keep hb2
    replace hCc := hCc.keep hb2
    have hCd := C3.new w5 (.int .i64 p0) (.int .i64 p1) (.int .u64 p2) 36
    clear hb hb2
    obtain ⟨Bd, hBd⟩ : ∃ B, w5.heap.size = B := ⟨_, rfl⟩
    rw [hBd] at hCd
    obtain ⟨W, hW⟩ : ∃ W, w5.alloc (.cells #[.int .i64 p0, .int .i64 p1, .int .u64 p2] 36) = W := ⟨_, rfl⟩
    rw [hW] at hQ hCc hCd
    replace hW := Lib.hid hW
    replace hBd := Lib.hid hBd
    have hS0 : (C3 W.drew w.heap.size (.int .i64 o0) (.int .i64 o1) (.int .u64 o2) ∧ C3 W.drew (w.heap.size + 1) (.int .i64 h0) (.int .i64 h1) (.int .u64 h2) ∧ Tb W.drew ∧ Below w.heap.size w W.drew ∧ w.heap.size ≤ W.drew.heap.size ∧ C3 W.drew Bc (.int .i64 p0) (.int .i64 p1) (.int .u64 p2) ∧ C3 W.drew Bd (.int .i64 p0) (.int .i64 p1) (.int .u64 p2)) := ⟨hQ.1, hQ.2.1, hQ.2.2.1, hQ.2.2.2.1.drew, hQ.2.2.2.2, hCc, hCd⟩
    go_wp2_with fail
    try rw [hBd.out]
    try rw [hW.out]
    clear hBd hW
    refine wp_region_held_drew (S := (fun w' => C3 w' w.heap.size (.int .i64 o0) (.int .i64 o1) (.int .u64 o2) ∧ C3 w' (w.heap.size + 1) (.int .i64 h0) (.int .i64 h1) (.int .u64 h2) ∧ Tb w' ∧ Below w.heap.size w w' ∧ w.heap.size ≤ w'.heap.size ∧ C3 w' Bc (.int .i64 p0) (.int .i64 p1) (.int .u64 p2) ∧ C3 w' Bd (.int .i64 p0) (.int .i64 p1) (.int .u64 p2))) (by kernel_rfl) ?_ (fun hHeld => ?_)
    · (try dsimp only)
      (first | exact hS0 | exact ⟨hHeld.1.keep hb, hHeld.2.1.keep hb, hHeld.2.2.1.next hb, hHeld.2.2.2.1.trans (hb.mono hHeld.2.2.2.2.1), Nat.le_trans hHeld.2.2.2.2.1 hb.size, hHeld.2.2.2.2.2.1.keep hb, hHeld.2.2.2.2.2.2.keep hb⟩)
    refine takeL 0 (v := ?_) rfl (by kernel_rfl) (by kernel_rfl) (by kernel_rfl) (fun _ _ _ h => h) (by rfl) (by assumption) ?_ ?_
    rotate_left
    · (intro w hSw; (try dsimp only at hSw); (obtain ⟨⟨q0, q1, q2⟩, ⟨r0, r1, r2⟩, _, _, _, ⟨m0, m1, m2⟩, ⟨n0, n1, n2⟩⟩ := hSw); go_simp <;> with_reducible rfl)
    try simp only [Act.put, List.setIfInBounds_toArray, List.set_cons_zero, List.set_cons_succ]
    refine takeL 1 (v := ?_) rfl (by kernel_rfl) (by kernel_rfl) (by kernel_rfl) (fun _ _ _ h => h) (by rfl) (by assumption) ?_ ?_
    rotate_left
    · (intro w hSw; (try dsimp only at hSw); (obtain ⟨⟨q0, q1, q2⟩, ⟨r0, r1, r2⟩, _, _, _, ⟨m0, m1, m2⟩, ⟨n0, n1, n2⟩⟩ := hSw); go_simp <;> with_reducible rfl)
    try simp only [Act.put, List.setIfInBounds_toArray, List.set_cons_zero, List.set_cons_succ]
    refine takeL 2 (v := ?_) rfl (by kernel_rfl) (by kernel_rfl) (by kernel_rfl) (fun _ _ _ h => h) (by rfl) (by assumption) ?_ ?_
    rotate_left
    · (intro w hSw; (try dsimp only at hSw); (obtain ⟨⟨q0, q1, q2⟩, ⟨r0, r1, r2⟩, _, _, _, ⟨m0, m1, m2⟩, ⟨n0, n1, n2⟩⟩ := hSw); go_simp <;> with_reducible rfl)
    try simp only [Act.put, List.setIfInBounds_toArray, List.set_cons_zero, List.set_cons_succ]
    refine takeL 4 (v := ?_) rfl (by kernel_rfl) (by kernel_rfl) (by kernel_rfl) (fun _ _ _ h => h) (by rfl) (by assumption) ?_ ?_
    rotate_left
    · (intro w hSw; (try dsimp only at hSw); (obtain ⟨⟨q0, q1, q2⟩, ⟨r0, r1, r2⟩, _, _, _, ⟨m0, m1, m2⟩, ⟨n0, n1, n2⟩⟩ := hSw); go_simp <;> with_reducible rfl)
    try simp only [Act.put, List.setIfInBounds_toArray, List.set_cons_zero, List.set_cons_succ]
    refine oneL 3 rfl (by kernel_rfl) (fun K hK => ?_)
    go_simp
    (have qT := hHeld.2.2.1; go_at_call 18; (with_reducible refine (hT1.out _ qT).mono ?_); rintro e w8 ⟨rfl, hb⟩)
    refine hK.out _ _ ?_ (fun hHeld2 => ?_)
    · (try dsimp only)
      (first | exact hS0 | exact ⟨hHeld.1.keep hb, hHeld.2.1.keep hb, hHeld.2.2.1.next hb, hHeld.2.2.2.1.trans (hb.mono hHeld.2.2.2.2.1), Nat.le_trans hHeld.2.2.2.2.1 hb.size, hHeld.2.2.2.2.2.1.keep hb, hHeld.2.2.2.2.2.2.keep hb⟩)
    clear hK K hHeld
    have hHeld := hHeld2
    clear hHeld2
    try simp only [Act.put, List.setIfInBounds_toArray, List.set_cons_zero, List.set_cons_succ]
    refine oneL 5 rfl (by kernel_rfl) (fun K hK => ?_)
    go_simp
    (go_at_call 19; (with_reducible refine (hT2.out _).mono ?_); rintro e w8 ⟨rfl, hb⟩)
    refine hK.out _ _ ?_ (fun hHeld2 => ?_)
    · (try dsimp only)
      (first | exact hS0 | exact ⟨hHeld.1.keep hb, hHeld.2.1.keep hb, hHeld.2.2.1.next hb, hHeld.2.2.2.1.trans (hb.mono hHeld.2.2.2.2.1), Nat.le_trans hHeld.2.2.2.2.1 hb.size, hHeld.2.2.2.2.2.1.keep hb, hHeld.2.2.2.2.2.2.keep hb⟩)
    clear hK K hHeld
    have hHeld := hHeld2
    clear hHeld2
    try simp only [Act.put, List.setIfInBounds_toArray, List.set_cons_zero, List.set_cons_succ]
    refine takeL 6 (v := ?_) rfl (by kernel_rfl) (by kernel_rfl) (by kernel_rfl) (fun _ _ _ h => h) (by rfl) (by assumption) ?_ ?_
    rotate_left
    · (intro w hSw; (try dsimp only at hSw); (obtain ⟨⟨q0, q1, q2⟩, ⟨r0, r1, r2⟩, _, _, _, ⟨m0, m1, m2⟩, ⟨n0, n1, n2⟩⟩ := hSw); go_simp <;> with_reducible rfl)
    try simp only [Act.put, List.setIfInBounds_toArray, List.set_cons_zero, List.set_cons_succ]
    refine takeL 7 (v := ?_) rfl (by kernel_rfl) (by kernel_rfl) (by kernel_rfl) (fun _ _ _ h => h) (by rfl) (by assumption) ?_ ?_
    rotate_left
    · (intro w hSw; (try dsimp only at hSw); (obtain ⟨⟨q0, q1, q2⟩, ⟨r0, r1, r2⟩, _, _, _, ⟨m0, m1, m2⟩, ⟨n0, n1, n2⟩⟩ := hSw); go_simp <;> with_reducible rfl)
    try simp only [Act.put, List.setIfInBounds_toArray, List.set_cons_zero, List.set_cons_succ]
    refine takeL 8 (v := ?_) rfl (by kernel_rfl) (by kernel_rfl) (by kernel_rfl) (fun _ _ _ h => h) (by rfl) (by assumption) ?_ ?_
    rotate_left
    · (intro w hSw; (try dsimp only at hSw); (obtain ⟨⟨q0, q1, q2⟩, ⟨r0, r1, r2⟩, _, _, _, ⟨m0, m1, m2⟩, ⟨n0, n1, n2⟩⟩ := hSw); go_simp <;> with_reducible rfl)
    try simp only [Act.put, List.setIfInBounds_toArray, List.set_cons_zero, List.set_cons_succ]
    refine takeL 9 (v := ?_) rfl (by kernel_rfl) (by kernel_rfl) (by kernel_rfl) (fun _ _ _ h => h) (by rfl) (by assumption) ?_ ?_
    rotate_left
    · (intro w hSw; (try dsimp only at hSw); (obtain ⟨⟨q0, q1, q2⟩, ⟨r0, r1, r2⟩, _, _, _, ⟨m0, m1, m2⟩, ⟨n0, n1, n2⟩⟩ := hSw); go_simp <;> with_reducible rfl)
    try simp only [Act.put, List.setIfInBounds_toArray, List.set_cons_zero, List.set_cons_succ]
    refine takeL 10 (v := ?_) rfl (by kernel_rfl) (by kernel_rfl) (by kernel_rfl) (fun _ _ _ h => h) (by rfl) (by assumption) ?_ ?_
    rotate_left
    · (intro w hSw; (try dsimp only at hSw); (obtain ⟨⟨q0, q1, q2⟩, ⟨r0, r1, r2⟩, _, _, _, ⟨m0, m1, m2⟩, ⟨n0, n1, n2⟩⟩ := hSw); go_simp <;> with_reducible rfl)
    try simp only [Act.put, List.setIfInBounds_toArray, List.set_cons_zero, List.set_cons_succ]
    refine takeL 11 (v := ?_) rfl (by kernel_rfl) (by kernel_rfl) (by kernel_rfl) (fun _ _ _ h => h) (by rfl) (by assumption) ?_ ?_
    rotate_left
    · (intro w hSw; (try dsimp only at hSw); (obtain ⟨⟨q0, q1, q2⟩, ⟨r0, r1, r2⟩, _, _, _, ⟨m0, m1, m2⟩, ⟨n0, n1, n2⟩⟩ := hSw); go_simp <;> with_reducible rfl)
    try simp only [Act.put, List.setIfInBounds_toArray, List.set_cons_zero, List.set_cons_succ]
    refine takeL 12 (v := ?_) rfl (by kernel_rfl) (by kernel_rfl) (by kernel_rfl) (fun _ _ _ h => h) (by rfl) (by assumption) ?_ ?_
    rotate_left
    · (intro w hSw; (try dsimp only at hSw); (obtain ⟨⟨q0, q1, q2⟩, ⟨r0, r1, r2⟩, _, _, _, ⟨m0, m1, m2⟩, ⟨n0, n1, n2⟩⟩ := hSw); go_simp <;> with_reducible rfl)
    try simp only [Act.put, List.setIfInBounds_toArray, List.set_cons_zero, List.set_cons_succ]
    refine takeL 13 (v := ?_) rfl (by kernel_rfl) (by kernel_rfl) (by kernel_rfl) (fun _ _ _ h => h) (by rfl) (by assumption) ?_ ?_
    rotate_left
    · (intro w hSw; (try dsimp only at hSw); (obtain ⟨⟨q0, q1, q2⟩, ⟨r0, r1, r2⟩, _, _, _, ⟨m0, m1, m2⟩, ⟨n0, n1, n2⟩⟩ := hSw); go_simp <;> with_reducible rfl)
    try simp only [Act.put, List.setIfInBounds_toArray, List.set_cons_zero, List.set_cons_succ]
    refine takeL 14 (v := ?_) rfl (by kernel_rfl) (by kernel_rfl) (by kernel_rfl) (fun _ _ _ h => h) (by rfl) (by assumption) ?_ ?_
    rotate_left
    · (intro w hSw; (try dsimp only at hSw); (obtain ⟨⟨q0, q1, q2⟩, ⟨r0, r1, r2⟩, _, _, _, ⟨m0, m1, m2⟩, ⟨n0, n1, n2⟩⟩ := hSw); go_simp <;> with_reducible rfl)
    try simp only [Act.put, List.setIfInBounds_toArray, List.set_cons_zero, List.set_cons_succ]
    refine takeL 15 (v := ?_) rfl (by kernel_rfl) (by kernel_rfl) (by kernel_rfl) (fun _ _ _ h => h) (by rfl) (by assumption) ?_ ?_
    rotate_left
    · (intro w hSw; (try dsimp only at hSw); (obtain ⟨⟨q0, q1, q2⟩, ⟨r0, r1, r2⟩, _, _, _, ⟨m0, m1, m2⟩, ⟨n0, n1, n2⟩⟩ := hSw); go_simp <;> with_reducible rfl)
    try simp only [Act.put, List.setIfInBounds_toArray, List.set_cons_zero, List.set_cons_succ]
    refine takeL 16 (v := ?_) rfl (by kernel_rfl) (by kernel_rfl) (by kernel_rfl) (fun _ _ _ h => h) (by rfl) (by assumption) ?_ ?_
    rotate_left
    · (intro w hSw; (try dsimp only at hSw); (obtain ⟨⟨q0, q1, q2⟩, ⟨r0, r1, r2⟩, _, _, _, ⟨m0, m1, m2⟩, ⟨n0, n1, n2⟩⟩ := hSw); go_simp <;> with_reducible rfl)
    try simp only [Act.put, List.setIfInBounds_toArray, List.set_cons_zero, List.set_cons_succ]
    refine takeL 17 (v := ?_) rfl (by kernel_rfl) (by kernel_rfl) (by kernel_rfl) (fun _ _ _ h => h) (by rfl) (by assumption) ?_ ?_
    rotate_left
    · (intro w hSw; (try dsimp only at hSw); (obtain ⟨⟨q0, q1, q2⟩, ⟨r0, r1, r2⟩, _, _, _, ⟨m0, m1, m2⟩, ⟨n0, n1, n2⟩⟩ := hSw); go_simp <;> with_reducible rfl)
    try simp only [Act.put, List.setIfInBounds_toArray, List.set_cons_zero, List.set_cons_succ]
    refine takeL 18 (v := ?_) rfl (by kernel_rfl) (by kernel_rfl) (by kernel_rfl) (fun _ _ _ h => h) (by rfl) (by assumption) ?_ ?_
    rotate_left
    · (intro w hSw; (try dsimp only at hSw); (obtain ⟨⟨q0, q1, q2⟩, ⟨r0, r1, r2⟩, _, _, _, ⟨m0, m1, m2⟩, ⟨n0, n1, n2⟩⟩ := hSw); go_simp <;> with_reducible rfl)
    try simp only [Act.put, List.setIfInBounds_toArray, List.set_cons_zero, List.set_cons_succ]
    refine takeL 19 (v := ?_) rfl (by kernel_rfl) (by kernel_rfl) (by kernel_rfl) (fun _ _ _ h => h) (by rfl) (by assumption) ?_ ?_
    rotate_left
    · (intro w hSw; (try dsimp only at hSw); (obtain ⟨⟨q0, q1, q2⟩, ⟨r0, r1, r2⟩, _, _, _, ⟨m0, m1, m2⟩, ⟨n0, n1, n2⟩⟩ := hSw); go_simp <;> with_reducible rfl)
    try simp only [Act.put, List.setIfInBounds_toArray, List.set_cons_zero, List.set_cons_succ]
    refine takeL 20 (v := ?_) rfl (by kernel_rfl) (by kernel_rfl) (by kernel_rfl) (fun _ _ _ h => h) (by rfl) (by assumption) ?_ ?_
    rotate_left
    · (intro w hSw; (try dsimp only at hSw); (obtain ⟨⟨q0, q1, q2⟩, ⟨r0, r1, r2⟩, _, _, _, ⟨m0, m1, m2⟩, ⟨n0, n1, n2⟩⟩ := hSw); go_simp <;> with_reducible rfl)
    try simp only [Act.put, List.setIfInBounds_toArray, List.set_cons_zero, List.set_cons_succ]
    refine takeL 22 (v := ?_) rfl (by kernel_rfl) (by kernel_rfl) (by kernel_rfl) (fun _ _ _ h => h) (by rfl) (by assumption) ?_ ?_
    rotate_left
    · (intro w hSw; (try dsimp only at hSw); (obtain ⟨⟨q0, q1, q2⟩, ⟨r0, r1, r2⟩, _, _, _, ⟨m0, m1, m2⟩, ⟨n0, n1, n2⟩⟩ := hSw); go_simp <;> with_reducible rfl)
    try simp only [Act.put, List.setIfInBounds_toArray, List.set_cons_zero, List.set_cons_succ]
    refine takeL 23 (v := ?_) rfl (by kernel_rfl) (by kernel_rfl) (by kernel_rfl) (fun _ _ _ h => h) (by rfl) (by assumption) ?_ ?_
    rotate_left
    · (intro w hSw; (try dsimp only at hSw); (obtain ⟨⟨q0, q1, q2⟩, ⟨r0, r1, r2⟩, _, _, _, ⟨m0, m1, m2⟩, ⟨n0, n1, n2⟩⟩ := hSw); go_simp <;> with_reducible rfl)
    try simp only [Act.put, List.setIfInBounds_toArray, List.set_cons_zero, List.set_cons_succ]
    refine takeL 24 (v := ?_) rfl (by kernel_rfl) (by kernel_rfl) (by kernel_rfl) (fun _ _ _ h => h) (by rfl) (by assumption) ?_ ?_
    rotate_left
    · (intro w hSw; (try dsimp only at hSw); (obtain ⟨⟨q0, q1, q2⟩, ⟨r0, r1, r2⟩, _, _, _, ⟨m0, m1, m2⟩, ⟨n0, n1, n2⟩⟩ := hSw); go_simp <;> with_reducible rfl)
    try simp only [Act.put, List.setIfInBounds_toArray, List.set_cons_zero, List.set_cons_succ]
    refine takeL 25 (v := ?_) rfl (by kernel_rfl) (by kernel_rfl) (by kernel_rfl) (fun _ _ _ h => h) (by rfl) (by assumption) ?_ ?_
    rotate_left
    · (intro w hSw; (try dsimp only at hSw); (obtain ⟨⟨q0, q1, q2⟩, ⟨r0, r1, r2⟩, _, _, _, ⟨m0, m1, m2⟩, ⟨n0, n1, n2⟩⟩ := hSw); go_simp <;> with_reducible rfl)
    try simp only [Act.put, List.setIfInBounds_toArray, List.set_cons_zero, List.set_cons_succ]
    refine takeL 26 (v := ?_) rfl (by kernel_rfl) (by kernel_rfl) (by kernel_rfl) (fun _ _ _ h => h) (by rfl) (by assumption) ?_ ?_
    rotate_left
    · (intro w hSw; (try dsimp only at hSw); (obtain ⟨⟨q0, q1, q2⟩, ⟨r0, r1, r2⟩, _, _, _, ⟨m0, m1, m2⟩, ⟨n0, n1, n2⟩⟩ := hSw); go_simp <;> with_reducible rfl)
    try simp only [Act.put, List.setIfInBounds_toArray, List.set_cons_zero, List.set_cons_succ]
    refine takeL 27 (v := ?_) rfl (by kernel_rfl) (by kernel_rfl) (by kernel_rfl) (fun _ _ _ h => h) (by rfl) (by assumption) ?_ ?_
    rotate_left
    · (intro w hSw; (try dsimp only at hSw); (obtain ⟨⟨q0, q1, q2⟩, ⟨r0, r1, r2⟩, _, _, _, ⟨m0, m1, m2⟩, ⟨n0, n1, n2⟩⟩ := hSw); go_simp <;> with_reducible rfl)
    try simp only [Act.put, List.setIfInBounds_toArray, List.set_cons_zero, List.set_cons_succ]
    refine oneL 21 rfl (by kernel_rfl) (fun K hK => ?_)
    go_simp
    (go_at_call 20; (with_reducible refine (hNm.out _).mono ?_); rintro e w8 ⟨rfl, hb⟩)
    refine hK.out _ _ ?_ (fun hHeld2 => ?_)
    · (try dsimp only)
      (first | exact hS0 | exact ⟨hHeld.1.keep hb, hHeld.2.1.keep hb, hHeld.2.2.1.next hb, hHeld.2.2.2.1.trans (hb.mono hHeld.2.2.2.2.1), Nat.le_trans hHeld.2.2.2.2.1 hb.size, hHeld.2.2.2.2.2.1.keep hb, hHeld.2.2.2.2.2.2.keep hb⟩)
    clear hK K hHeld
    have hHeld := hHeld2
    clear hHeld2
    try simp only [Act.put, List.setIfInBounds_toArray, List.set_cons_zero, List.set_cons_succ]
    refine takeL 28 (v := ?_) rfl (by kernel_rfl) (by kernel_rfl) (by kernel_rfl) (fun _ _ _ h => h) (by rfl) (by assumption) ?_ ?_
    rotate_left
    · (intro w hSw; (try dsimp only at hSw); (obtain ⟨⟨q0, q1, q2⟩, ⟨r0, r1, r2⟩, _, _, _, ⟨m0, m1, m2⟩, ⟨n0, n1, n2⟩⟩ := hSw); go_simp <;> with_reducible rfl)
    try simp only [Act.put, List.setIfInBounds_toArray, List.set_cons_zero, List.set_cons_succ]
    refine takeL 29 (v := ?_) rfl (by kernel_rfl) (by kernel_rfl) (by kernel_rfl) (fun _ _ _ h => h) (by rfl) (by assumption) ?_ ?_
    rotate_left
    · (intro w hSw; (try dsimp only at hSw); (obtain ⟨⟨q0, q1, q2⟩, ⟨r0, r1, r2⟩, _, _, _, ⟨m0, m1, m2⟩, ⟨n0, n1, n2⟩⟩ := hSw); go_simp <;> with_reducible rfl)
    try simp only [Act.put, List.setIfInBounds_toArray, List.set_cons_zero, List.set_cons_succ]
    refine takeL 30 (v := ?_) rfl (by kernel_rfl) (by kernel_rfl) (by kernel_rfl) (fun _ _ _ h => h) (by rfl) (by assumption) ?_ ?_
    rotate_left
    · (intro w hSw; (try dsimp only at hSw); (obtain ⟨⟨q0, q1, q2⟩, ⟨r0, r1, r2⟩, _, _, _, ⟨m0, m1, m2⟩, ⟨n0, n1, n2⟩⟩ := hSw); go_simp <;> with_reducible rfl)
    try simp only [Act.put, List.setIfInBounds_toArray, List.set_cons_zero, List.set_cons_succ]
    refine wpAnyH_done (by kernel_rfl) ?_ _
    obtain ⟨_, _, _, qB, _⟩ := hHeld
    (try simp only [Exit.inBlock, Exit.then])
    go_wp2_with fail
    (try simp only [Exit.inBlock, Exit.then])
    go_ret
    exact ⟨rfl, qB⟩
end Go.Proofs.YtdblioggncnapaaDoor
