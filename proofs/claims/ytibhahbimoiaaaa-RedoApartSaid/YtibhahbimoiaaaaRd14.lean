/-
  The laws of package redo: RedoDecodes.
-/
import Derived.Test.YtibhahbimoiaaaaRd13
set_option linter.unusedVariables false
set_option linter.unusedSimpArgs false
namespace Go.Proofs.Ytibhahbimoiaaaa
open Go.RowKit Go.ChangeShapes Go.WideShapes Go.Deep

def decD (ws : List Nat) (k : Nat) : List Ox := if decB ws k = true then opsN ws k else []
theorem decD_len (ws : List Nat) (k : Nat) : (decD ws k).length ≤ k := by
  unfold decD
  split
  · rw [opsN_len]; exact Nat.le_refl _
  · exact Nat.zero_le _

theorem dec_n (v : Value) (ws : List Nat) (k : Nat) (w : World) (hv : KL .u64 w v ws) (hW : WL ws) (hlen : ws.length ≤ 900) (hk : k ≤ 19) (hkl : 2 * k + 1 ≤ ws.length) :
    Calls Try.prog 19 #[v, .int .i64 (k : Nat)] w fun e w' => ∃ v', e = .returned (.tuple #[v', .bool (decB ws k)]) ∧ OPL w' v' (decD ws k) ∧ Below w.heap.size w w' := by
  unfold decD
  cases hd : decB ws k with
  | true =>
    refine (dec_t v ws k w hv hW hlen hk hkl hd).mono ?_
    rintro e w' ⟨v', rfl, ho, hb⟩
    exact ⟨v', rfl, ho.opl, hb⟩
  | false =>
    refine (dec_f v ws k w hv hW hlen hk hkl hd).mono ?_
    rintro e w' ⟨rfl, hb⟩
    exact ⟨_, rfl, EL.nil _ _ _ _ _, hb⟩

theorem refDec_n (v : Value) (ws : List Nat) (k : Nat) (w : World) (hv : KL .u64 w v ws) (hW : WL ws) (hlen : ws.length ≤ 900) (hk : k ≤ 19) (hkl : 2 * k + 1 ≤ ws.length) :
    Calls Try.prog 20 #[v, .int .i64 (k : Nat)] w fun e w' => ∃ v', e = .returned (.tuple #[v', .bool (decB ws k)]) ∧ OPL w' v' (decD ws k) ∧ Below w.heap.size w w' := by
  unfold decD
  cases hd : decB ws k with
  | true =>
    refine (refDec_t v ws k w hv hW hlen hk hkl hd).mono ?_
    rintro e w' ⟨v', rfl, ho, hb⟩
    exact ⟨v', rfl, ho.opl, hb⟩
  | false =>
    refine (refDec_f v ws k w hv hW hlen hk hkl hd).mono ?_
    rintro e w' ⟨rfl, hb⟩
    exact ⟨_, rfl, EL.nil _ _ _ _ _, hb⟩

set_option maxHeartbeats 1000000 in
theorem redoDecodes_n1 (v : Value) (ws : List Nat) (m : Int) (w : World) (hW : WL ws) (hv : KL .u64 w v ws) (hm1 : -9223372036854775808 ≤ m) (hm2 : m ≤ 9223372036854775807) (h : 50 < ws.length) :
    Calls Try.prog 4 #[v, .int .i64 m] w fun e w' => e = .returned (.bool true) ∧ Below w.heap.size w w' := by
  obtain ⟨A, cap, rfl, _⟩ := hv.form rfl
  have h1 : (50 : Int) < (ws.length : Int) := by omega
  clear hv
  go_enter Try.func4, Try.ntmps4
  go_wp2_with fail
  refine (awake12 _).mono ?_
  rintro e w1 ⟨rfl, hb1⟩
  go_wp2_with fail
  go_ret
  exact ⟨rfl, hb1⟩

set_option maxHeartbeats 2000000 in
theorem redoDecodes_bad (v : Value) (ws : List Nat) (m : Int) (w : World) (hW : WL ws) (hv : KL .u64 w v ws) (hm1 : -9223372036854775808 ≤ m) (hm2 : m ≤ 9223372036854775807) (hl : ws.length ≤ 50) (h : m < 0 ∨ (0 ≤ m ∧ 19 < m) ∨ (0 ≤ m ∧ m ≤ 19 ∧ (ws.length : Int) < 2 * m + 1)) :
    Calls Try.prog 4 #[v, .int .i64 m] w fun e w' => e = .returned (.bool true) ∧ Below w.heap.size w w' := by
  have hD := Lib.hid (fun w1 (hb : Below w.heap.size w w1) => dec_bad v ws m w1 (hv.keep hb) (by omega) hm1 hm2 h)
  have hR := Lib.hid (fun w1 (hb : Below w.heap.size w w1) => refDec_bad v ws m w1 (hv.keep hb) (by omega) hm1 hm2 h)
  have hS := Lib.hid (fun w => opsame_any (.slice none 0 0) (.slice none 0 0) [] [] w (by simp) (EL.nil _ _ _ _ _) (EL.nil _ _ _ _ _))
  obtain ⟨n, hn⟩ : ∃ n, ws.length = n := ⟨_, rfl⟩
  obtain ⟨A, cap, rfl, _⟩ := hv.form hn
  rw [hn] at h hl
  have h1 : (n : Int) ≤ 50 := by omega
  have hB0 := Below.refl w.heap.size w
  replace hn := Lib.hid hn
  have b1 : -9223372036854775808 ≤ m := hm1
  clear hv hW
  rcases h with h | ⟨h, h2⟩ | ⟨h, h2, h3⟩
  all_goals
    go_enter Try.func4, Try.ntmps4
    go_wp2_with fail
    refine (awake12 _).mono ?_
    rintro e w1 ⟨rfl, hb1⟩
    have hB1 := hB0.trans (hb1.mono hB0.size)
    clear hb1 hB0
    go_wp2_with fail
    refine (hD.out _ hB1).mono ?_
    rintro e w2 ⟨rfl, hb2⟩
    have hB2 := hB1.trans (hb2.mono hB1.size)
    clear hb2 hB1
    go_wp2_with fail
    refine (hR.out _ hB2).mono ?_
    rintro e w3 ⟨rfl, hb3⟩
    have hB3 := hB2.trans (hb3.mono hB2.size)
    clear hb3 hB2
    go_wp2_with fail
    refine (hS.out _).mono ?_
    rintro e w4 ⟨rfl, hb4⟩
    have hB4 := hB3.trans (hb4.mono hB3.size)
    clear hb4 hB3
    go_wp2_with fail
    go_ret
    exact ⟨rfl, hB4⟩

set_option maxRecDepth 10000 in
set_option maxHeartbeats 8000000 in
theorem redoDecodes_yes (v : Value) (ws : List Nat) (k : Nat) (w : World) (hW : WL ws) (hv : KL .u64 w v ws) (hl : ws.length ≤ 50) (hk : k ≤ 19) (hkl : 2 * k + 1 ≤ ws.length) :
    Calls Try.prog 4 #[v, .int .i64 (k : Nat)] w fun e w' => e = .returned (.bool true) ∧ Below w.heap.size w w' := by
  obtain ⟨XS, hXS⟩ : ∃ XS, XS = ws.set (2 * k) (moreN 0 (ws.take (2 * k))) := ⟨_, rfl⟩
  have hXl : XS.length = ws.length := by rw [hXS, List.length_set]
  have hmn := moreN_lt 0 (ws.take (2 * k))
  have hXW : WL XS := by
    intro x hx
    rw [hXS] at hx
    rcases List.mem_or_eq_of_mem_set hx with hx | rfl
    · exact hW x hx
    · omega
  have hD := fun w1 (hb : Below w.heap.size w w1) => dec_n v ws k w1 (hv.keep hb) hW (by omega) hk hkl
  have hR := fun w1 (hb : Below w.heap.size w w1) => refDec_n v ws k w1 (hv.keep hb) hW (by omega) hk hkl
  have hD2 := fun v w1 (h : KL .u64 w1 v XS) => dec_n v XS k w1 h hXW (by omega) hk (by omega)
  have hR2 := fun v w1 (h : KL .u64 w1 v XS) => refDec_n v XS k w1 h hXW (by omega) hk (by omega)
  have hS := fun v u w hv hu => opsame_any v u (decD ws k) (decD ws k) w (by have := decD_len ws k; omega) hv hu
  have hS2 := fun v u w hv hu => opsame_any v u (decD XS k) (decD XS k) w (by have := decD_len XS k; omega) hv hu
  rw [show decide (decD ws k = decD ws k) = true by simp] at hS
  rw [show decide (decD XS k = decD XS k) = true by simp] at hS2
  have hOf := Lib.hid (fun v w1 (h : KL .u64 w1 v (ws.take (2 * k))) => refOf_any v (ws.take (2 * k)) w1 (fun x hx => hW x (List.mem_of_mem_take hx)) (by rw [List.length_take]; omega) h.sl)
  have hN := Lib.hid (fun w1 (hb : Below w.heap.size w w1) => newW (w := w1) (hv.keep hb) (by omega))
  generalize decD ws k = D1 at *
  generalize decD XS k = D2 at *
  generalize decB ws k = β1 at *
  generalize decB XS k = β2 at *
  replace hXl := Lib.hid hXl
  replace hD := Lib.hid hD
  replace hR := Lib.hid hR
  replace hD2 := Lib.hid hD2
  replace hR2 := Lib.hid hR2
  replace hS := Lib.hid hS
  replace hS2 := Lib.hid hS2
  generalize hms : moreN 0 (ws.take (2 * k)) = ms at *
  replace hms := Lib.hid hms
  replace hXS := Lib.hid hXS
  obtain ⟨n, hn⟩ : ∃ n, ws.length = n := ⟨_, rfl⟩
  obtain ⟨A, cap, rfl, _⟩ := hv.form hn
  rw [hn] at hl hkl
  have q1 : (k : Int) ≤ 19 := by omega
  have q2 : 2 * (k : Int) + 1 ≤ (n : Int) := by omega
  have h1 : (n : Int) ≤ 50 := by omega
  have i1 : IntKind.i64.wrap (2 * (k : Int)) = 2 * (k : Int) := by rw [IntKind.wrap_i64]; omega
  have i2 : IntKind.i64.wrap (2 * (k : Int) + 1) = 2 * (k : Int) + 1 := by rw [IntKind.wrap_i64]; omega
  have i3 : (2 * (k : Int)).toNat = 2 * k := by omega
  have i4 : 0 ≤ 2 * (k : Int) := by omega
  have i5 : 2 * (k : Int) < (n : Int) := by omega
  have i6 : IntKind.u64.wrap (ms : Int) = (ms : Int) := by rw [IntKind.wrap_u64]; omega
  have hB0 := Below.refl w.heap.size w
  replace hn := Lib.hid hn
  clear hv hW hXW
  cases β1 <;> cases β2
  all_goals
    go_enter Try.func4, Try.ntmps4
    go_wp2_with fail
    refine (awake12 _).mono ?_
    rintro e w1 ⟨rfl, hb1⟩
    have hB1 := hB0.trans (hb1.mono hB0.size)
    clear hb1 hB0
    go_wp2_with fail
    refine (hD.out _ hB1).mono ?_
    rintro e w2 ⟨va, rfl, pa, hb2⟩
    have hB2 := hB1.trans (hb2.mono hB1.size)
    have ka := pa
    clear hb2 hB1
    clear pa
    go_wp2_with fail
    refine (hR.out _ hB2).mono ?_
    rintro e w3 ⟨vb, rfl, pb, hb3⟩
    have hB3 := hB2.trans (hb3.mono hB2.size)
    replace ka := ka.keep hb3
    have kb := pb
    clear hb3 hB2
    clear pb
    go_wp2_with fail
    refine (hS.out _ _ _ ka kb).mono ?_
    rintro e w4 ⟨rfl, hb4⟩
    have hB4 := hB3.trans (hb4.mono hB3.size)
    replace ka := ka.keep hb4
    replace kb := kb.keep hb4
    clear hb4 hB3
    clear ka kb
    obtain ⟨v1, w5, hrun, hown, hb5⟩ := hN.out _ hB4
    have hB5 := hB4.trans (hb5.mono hB4.size)
    obtain ⟨Ao, co, rfl, hAo⟩ := hown.form
    rw [hn.out] at hrun hown hAo
    obtain ⟨g, rfl, hg1, hg2⟩ := hAo (by omega)
    have hcap : n ≤ co := by obtain ⟨A', c', e, h'⟩ := hown.kl; rw [hn.out] at h'; cases e; obtain ⟨_, _, _, _, h, _⟩ := h' (by omega); exact h
    have hsl := run_slice_to (P := Try.prog) (ty := 24) Try.underlying24 (info_parts infoU64).choose_spec.1 (some ⟨g, 0, none⟩) n co (2 * k) (by omega)
    rw [show ((2 * k : Nat) : Int) = 2 * (k : Int) by omega] at hsl
    have kt : KL .u64 w5 (.slice (some ⟨g, 0, none⟩) (2 * k) co) (ws.take (2 * k)) := by have h := hown.kl; exact KL.take h (2 * k) (by have := hn.out; omega)
    go_wp2_with (at_builtin; refine wpList_append_run rfl _ _ 24 rfl _ _ _ rfl rfl hrun ?_)
    clear hrun hb5 hsl
    refine (hOf.out _ _ kt).mono ?_
    rintro e w6 ⟨rfl, hb6⟩
    obtain ⟨e0, f0⟩ := hown.cell hn.out (show 2 * k < n by omega)
    have e1 := cellK e0 hb6
    have f1 := frozK e0 f0 hb6
    have hownN := (hown.keep hb6).set (y := ms) hn.out (show 2 * k < n by omega)
    rw [show ws.set (2 * k) ms = XS from by rw [hXS.out]] at hownN
    have kn := hownN.kl
    have hB6 := hB5.trans (hb6.mono hB5.size)
    have hB7 : Below w.heap.size w (w6.setCell ⟨g, 2 * k, none⟩ (.int .u64 (ms : Nat))) := hB6.setCell (by have := hB4.size; simp only []; omega) _
    clear hown e0 f0 hownN hb6 hB4 hB5 hB6 kt hg1 hg2
    go_wp2_with fail
    refine (hD2.out _ _ kn).mono ?_
    rintro e w8 ⟨vc, rfl, pc, hb8⟩
    have hB8 := hB7.trans (hb8.mono hB7.size)
    replace kn := kn.keep hb8
    have kc := pc
    clear hb8 hB7
    clear pc
    go_wp2_with fail
    refine (hR2.out _ _ kn).mono ?_
    rintro e w9 ⟨vd, rfl, pd, hb9⟩
    have hB9 := hB8.trans (hb9.mono hB8.size)
    replace kn := kn.keep hb9
    replace kc := kc.keep hb9
    have kd := pd
    clear hb9 hB8
    clear pd
    go_wp2_with fail
    refine (hS2.out _ _ _ kc kd).mono ?_
    rintro e w10 ⟨rfl, hb10⟩
    have hB10 := hB9.trans (hb10.mono hB9.size)
    replace kn := kn.keep hb10
    replace kc := kc.keep hb10
    replace kd := kd.keep hb10
    clear hb10 hB9
    go_wp2_with fail
    go_ret
    exact ⟨rfl, hB10⟩
theorem redoDecodes (v : Value) (ws : List Nat) (m : Int) (w : World) (hW : WL ws) (hv : KL .u64 w v ws) (hm1 : -9223372036854775808 ≤ m) (hm2 : m ≤ 9223372036854775807) :
    Calls Try.prog 4 #[v, .int .i64 m] w fun e w' => e = .returned (.bool true) ∧ Below w.heap.size w w' := by
  by_cases h : 50 < ws.length
  · exact redoDecodes_n1 v ws m w hW hv hm1 hm2 h
  by_cases h0 : m < 0
  · exact redoDecodes_bad v ws m w hW hv hm1 hm2 (by omega) (.inl h0)
  by_cases h1 : 19 < m
  · exact redoDecodes_bad v ws m w hW hv hm1 hm2 (by omega) (.inr (.inl ⟨by omega, h1⟩))
  by_cases h2 : (ws.length : Int) < 2 * m + 1
  · exact redoDecodes_bad v ws m w hW hv hm1 hm2 (by omega) (.inr (.inr ⟨by omega, by omega, h2⟩))
  obtain ⟨k, rfl⟩ := Int.eq_ofNat_of_zero_le (show 0 ≤ m by omega)
  exact redoDecodes_yes v ws k w hW hv (by omega) (by omega) (by omega)
end Go.Proofs.Ytibhahbimoiaaaa
