/-
  The laws of package redo: RedoApart.
-/
import Derived.Test.YtibhahbimoiaaaaRd14
import Derived.Test.YtibhahbimoiaaaaRd15
set_option linter.unusedVariables false
set_option linter.unusedSimpArgs false
namespace Go.Proofs.Ytibhahbimoiaaaa
open Go.RowKit Go.ChangeShapes Go.WideShapes Go.Deep

set_option maxRecDepth 10000 in
set_option maxHeartbeats 1000000 in
theorem redoApart_n0 (v u x : Value) (I a b : List Nat) (ct : Nat) (w : World) (hI : WL I) (hv : KL .u64 w v I) (ha : BL a) (hu : KL .u8 w u a) (hb : BL b) (hx : KL .u8 w x b) (hct : ct < 256) (h : I.length = 0) :
    Calls Try.prog 8 #[v, u, x, .int .u8 (ct : Nat)] w fun e w' => e = .returned (.bool true) ∧ Below w.heap.size w w' := by
  obtain ⟨A, cap, rfl, _⟩ := hv.form h
  obtain ⟨A2, cap2, rfl, _⟩ := hu.form rfl
  obtain ⟨A3, cap3, rfl, _⟩ := hx.form rfl
  clear hv hu hx
  go_enter Try.func8, Try.ntmps8
  go_wp2_with fail
  refine (awake12 _).mono ?_
  rintro e w1 ⟨rfl, hb1⟩
  go_wp2_with fail
  go_ret
  exact ⟨rfl, hb1⟩

set_option maxRecDepth 10000 in
set_option maxHeartbeats 1000000 in
theorem redoApart_n1 (v u x : Value) (I a b : List Nat) (ct : Nat) (w : World) (hI : WL I) (hv : KL .u64 w v I) (ha : BL a) (hu : KL .u8 w u a) (hb : BL b) (hx : KL .u8 w x b) (hct : ct < 256) (h0 : 0 < I.length) (h : 40 < I.length) :
    Calls Try.prog 8 #[v, u, x, .int .u8 (ct : Nat)] w fun e w' => e = .returned (.bool true) ∧ Below w.heap.size w w' := by
  obtain ⟨A, cap, rfl, _⟩ := hv.form rfl
  have f0 : ((I.length : Int) == 0) = false := by rw [beq_eq_false_iff_ne]; omega
  have h1 : (40 : Int) < (I.length : Int) := by omega
  obtain ⟨A2, cap2, rfl, _⟩ := hu.form rfl
  obtain ⟨A3, cap3, rfl, _⟩ := hx.form rfl
  clear hv hu hx
  go_enter Try.func8, Try.ntmps8
  go_wp2_with fail
  refine (awake12 _).mono ?_
  rintro e w1 ⟨rfl, hb1⟩
  go_wp2_with fail
  go_ret
  exact ⟨rfl, hb1⟩

set_option maxRecDepth 10000 in
set_option maxHeartbeats 1000000 in
theorem redoApart_n2 (v u x : Value) (I a b : List Nat) (ct : Nat) (w : World) (hI : WL I) (hv : KL .u64 w v I) (ha : BL a) (hu : KL .u8 w u a) (hb : BL b) (hx : KL .u8 w x b) (hct : ct < 256) (h0 : 0 < I.length) (h : I.length ≤ 40) (h2 : 15 < a.length) :
    Calls Try.prog 8 #[v, u, x, .int .u8 (ct : Nat)] w fun e w' => e = .returned (.bool true) ∧ Below w.heap.size w w' := by
  obtain ⟨A, cap, rfl, _⟩ := hv.form rfl
  have f0 : ((I.length : Int) == 0) = false := by rw [beq_eq_false_iff_ne]; omega
  have h1 : (I.length : Int) ≤ 40 := by omega
  have h3 : (15 : Int) < (a.length : Int) := by omega
  obtain ⟨A2, cap2, rfl, _⟩ := hu.form rfl
  obtain ⟨A3, cap3, rfl, _⟩ := hx.form rfl
  clear hv hu hx
  go_enter Try.func8, Try.ntmps8
  go_wp2_with fail
  refine (awake12 _).mono ?_
  rintro e w1 ⟨rfl, hb1⟩
  go_wp2_with fail
  go_ret
  exact ⟨rfl, hb1⟩

set_option maxRecDepth 10000 in
set_option maxHeartbeats 1000000 in
theorem redoApart_n3 (v u x : Value) (I a b : List Nat) (ct : Nat) (w : World) (hI : WL I) (hv : KL .u64 w v I) (ha : BL a) (hu : KL .u8 w u a) (hb : BL b) (hx : KL .u8 w x b) (hct : ct < 256) (h0 : 0 < I.length) (h : I.length ≤ 40) (h2 : a.length ≤ 15) (h3 : 15 < b.length) :
    Calls Try.prog 8 #[v, u, x, .int .u8 (ct : Nat)] w fun e w' => e = .returned (.bool true) ∧ Below w.heap.size w w' := by
  obtain ⟨A, cap, rfl, _⟩ := hv.form rfl
  have f0 : ((I.length : Int) == 0) = false := by rw [beq_eq_false_iff_ne]; omega
  have h1 : (I.length : Int) ≤ 40 := by omega
  have h4 : (a.length : Int) ≤ 15 := by omega
  have h5 : (15 : Int) < (b.length : Int) := by omega
  obtain ⟨A2, cap2, rfl, _⟩ := hu.form rfl
  obtain ⟨A3, cap3, rfl, _⟩ := hx.form rfl
  clear hv hu hx
  go_enter Try.func8, Try.ntmps8
  go_wp2_with fail
  refine (awake12 _).mono ?_
  rintro e w1 ⟨rfl, hb1⟩
  go_wp2_with fail
  go_ret
  exact ⟨rfl, hb1⟩

set_option maxRecDepth 10000 in
set_option maxHeartbeats 8000000 in
theorem redoApart_yes (v u x : Value) (I a b : List Nat) (ct : Nat) (w : World) (hI : WL I) (hv : KL .u64 w v I) (ha : BL a) (hu : KL .u8 w u a) (hb : BL b) (hx : KL .u8 w x b) (hct : ct < 256) (h0 : 0 < I.length) (h : I.length ≤ 40) (h2 : a.length ≤ 15) (h3 : b.length ≤ 15) :
    Calls Try.prog 8 #[v, u, x, .int .u8 (ct : Nat)] w fun e w' => e = .returned (.bool true) ∧ Below w.heap.size w w' := by
  obtain ⟨n, hn⟩ : ∃ n, I.length = n := ⟨_, rfl⟩
  obtain ⟨NA, hNA⟩ : ∃ n, a.length = n := ⟨_, rfl⟩
  obtain ⟨NB, hNB⟩ : ∃ n, b.length = n := ⟨_, rfl⟩
  obtain ⟨k, hk⟩ : ∃ k, k = 1 + ct % 63 := ⟨_, rfl⟩
  have hk1 : 1 ≤ k ∧ k ≤ 63 := by have := Nat.mod_lt ct (show 0 < 63 by decide); omega
  have kv0 := hv
  obtain ⟨A, cap, rfl, _⟩ := hv.form hn
  obtain ⟨A2, cap2, rfl, hC2⟩ := hu.form hNA
  obtain ⟨A3, cap3, rfl, hC3⟩ := hx.form hNB
  rw [hn] at h0 h
  rw [hNA] at h2
  rw [hNB] at h3
  have hAa := Lib.hid (fun i (hi : i < NA) => ha.at i (by omega))
  have hAb := Lib.hid (fun i (hi : i < NB) => hb.at i (by omega))
  replace hC2 := Lib.hid hC2
  replace hC3 := Lib.hid hC3
  have f0 : ((n : Int) == 0) = false := by rw [beq_eq_false_iff_ne]; omega
  have f1 : (n : Int) ≤ 40 := by omega
  have f2 : (NA : Int) ≤ 15 := by omega
  have f3 : (NB : Int) ≤ 15 := by omega
  have f4 : IntKind.i64.wrap (1 + (ct : Int) % 63) = (k : Int) := by rw [IntKind.wrap_i64]; omega
  have hB0 := Below.refl w.heap.size w
  replace hn := Lib.hid hn
  replace hNA := Lib.hid hNA
  replace hNB := Lib.hid hNB
  replace hk := Lib.hid hk
  replace hI := Lib.hid hI
  clear hv hu hx ha hb
  go_enter Try.func8, Try.ntmps8
  go_wp2_with fail
  refine (awake12 _).mono ?_
  rintro e w1 ⟨rfl, hb1⟩
  have hB1 := hB0.trans (hb1.mono hB0.size)
  clear hb1 hB0
  go_wp2_with fail
  go_loopw [14, 11, 12, 13] (fun i x1 x2 x3 wr => ∃ (j : Nat) (L M X : List Ox), j ≤ 15 ∧ i = .int .i64 j ∧ Hid (Inv3 k L M X) ∧ Hid (L.length ≤ j ∧ M.length ≤ j ∧ X.length ≤ 2 * j) ∧ T3 wr w.heap.size x1 L x2 M x3 X ∧ Below w.heap.size w wr) (fun i _ _ _ _ => 16 - (intOf i).toNat)
  case atStart => exact ⟨0, [], [], [], Nat.zero_le _, rfl, Inv3.nil _, ⟨by simp, by simp, by simp⟩, T3.nil _ _, hB1⟩
  case round =>
    obtain ⟨j, L, M, X, hj, rfl, hinv, hlen, hT, hB⟩ := hrel
    by_cases hja : j < NA
    · have hja' : (j : Int) < (NA : Int) := by omega
      by_cases hjb : j < NB
      · have hjb' : (j : Int) < (NB : Int) := by omega
        obtain ⟨g2, o2, hA2, _, _, dA⟩ := hC2.out wr j hB hja
        obtain rfl := hA2
        have hx1 := hAa.out j hja
        generalize a.getD j 0 = av at *
        obtain ⟨p, hp⟩ : ∃ p, p = av % n := ⟨_, rfl⟩
        obtain ⟨q, hq⟩ : ∃ q, q = av % k := ⟨_, rfl⟩
        have hq2 : q < k := by rw [hq]; exact Nat.mod_lt _ (by omega)
        have r2 : (av : Int) % (k : Int) = (q : Int) := by rw [hq, Int.natCast_emod]
        have r2' : (av : Int).tmod (k : Int) = (q : Int) := by rw [Int.tmod_eq_emod_of_nonneg (by omega)]; exact r2
        have z2 : ¬ (k = 0) := by omega
        have r0 : IntKind.i64.wrap ((av : Nat) : Int) = (av : Int) := by rw [IntKind.wrap_i64]; omega
        have r1 : (av : Int) % (n : Int) = (p : Int) := by rw [hp, Int.natCast_emod]
        have r1' : (av : Int).tmod (n : Int) = (p : Int) := by rw [Int.tmod_eq_emod_of_nonneg (by omega)]; exact r1
        have z1 : ¬ (n = 0) := by omega
        have z3 : (q : Int) < 64 := by omega
        obtain ⟨V, hV⟩ : ∃ V, V = 2 ^ q := ⟨_, rfl⟩
        have hV2 : V < 18446744073709551616 := by rw [hV]; exact Nat.pow_lt_pow_right (n := 64) (by decide : 1 < 2) (by omega)
        have r3 : IntKind.u64.wrap (2 ^ q) = (V : Int) := by rw [hV]; exact wrap_pow q (by omega)
        replace hp := Lib.hid hp
        replace hq := Lib.hid hq
        replace hV := Lib.hid hV
        go_wp2_with fail
        refine wp_region_tail (S := (fun w' => w'.cell? ⟨g2, o2 + j, none⟩ = some (.int .u8 (av : Nat)) ∧ Below wr.heap.size wr w')) (n := 18) (by kernel_rfl) ?_ (fun hHeld hInv => ?_) (by decide)
        · (try dsimp only)
          (first | assumption | (exact ⟨dA, (Below.refl _ _).drew⟩) | ((try go_split_ands); exact ⟨cellK (by assumption) hb, Below.trans (by assumption) (hb.mono (Below.size (by assumption)))⟩))
        refine takeS 0 (v := ?_) (tailAt (by kernel_rfl)) hInv (by decide) rfl (by kernel_rfl) (by kernel_rfl) (by kernel_rfl) (fun _ _ _ h => h) (by rfl) (by assumption) ?_ (fun hInv2 => ?_)
        rotate_left
        · (intro w hSw; (try dsimp only at hSw); (try go_split_ands); go_simp <;> with_reducible rfl)
        clear hInv
        have hInv := hInv2
        clear hInv2
        try simp only [Act.put, List.setIfInBounds_toArray, List.set_cons_zero, List.set_cons_succ] at hInv ⊢
        refine takeS 1 (v := ?_) (tailAt (by kernel_rfl)) hInv (by decide) rfl (by kernel_rfl) (by kernel_rfl) (by kernel_rfl) (fun _ _ _ h => h) (by rfl) (by assumption) ?_ (fun hInv2 => ?_)
        rotate_left
        · (intro w hSw; (try dsimp only at hSw); (try go_split_ands); go_simp <;> with_reducible rfl)
        clear hInv
        have hInv := hInv2
        clear hInv2
        try simp only [Act.put, List.setIfInBounds_toArray, List.set_cons_zero, List.set_cons_succ] at hInv ⊢
        refine takeS 2 (v := ?_) (tailAt (by kernel_rfl)) hInv (by decide) rfl (by kernel_rfl) (by kernel_rfl) (by kernel_rfl) (fun _ _ _ h => h) (by rfl) (by assumption) ?_ (fun hInv2 => ?_)
        rotate_left
        · (intro w hSw; (try dsimp only at hSw); (try go_split_ands); go_simp <;> with_reducible rfl)
        clear hInv
        have hInv := hInv2
        clear hInv2
        try simp only [Act.put, List.setIfInBounds_toArray, List.set_cons_zero, List.set_cons_succ] at hInv ⊢
        refine takeS 3 (v := ?_) (tailAt (by kernel_rfl)) hInv (by decide) rfl (by kernel_rfl) (by kernel_rfl) (by kernel_rfl) (fun _ _ _ h => h) (by rfl) (by assumption) ?_ (fun hInv2 => ?_)
        rotate_left
        · (intro w hSw; (try dsimp only at hSw); (try go_split_ands); go_simp <;> with_reducible rfl)
        clear hInv
        have hInv := hInv2
        clear hInv2
        try simp only [Act.put, List.setIfInBounds_toArray, List.set_cons_zero, List.set_cons_succ] at hInv ⊢
        refine takeS 4 (v := ?_) (tailAt (by kernel_rfl)) hInv (by decide) rfl (by kernel_rfl) (by kernel_rfl) (by kernel_rfl) (fun _ _ _ h => h) (by rfl) (by assumption) ?_ (fun hInv2 => ?_)
        rotate_left
        · (intro w hSw; (try dsimp only at hSw); (try go_split_ands); go_simp <;> with_reducible rfl)
        clear hInv
        have hInv := hInv2
        clear hInv2
        try simp only [Act.put, List.setIfInBounds_toArray, List.set_cons_zero, List.set_cons_succ] at hInv ⊢
        refine takeS 5 (v := ?_) (tailAt (by kernel_rfl)) hInv (by decide) rfl (by kernel_rfl) (by kernel_rfl) (by kernel_rfl) (fun _ _ _ h => h) (by rfl) (by assumption) ?_ (fun hInv2 => ?_)
        rotate_left
        · (intro w hSw; (try dsimp only at hSw); (try go_split_ands); go_simp <;> with_reducible rfl)
        clear hInv
        have hInv := hInv2
        clear hInv2
        try simp only [Act.put, List.setIfInBounds_toArray, List.set_cons_zero, List.set_cons_succ] at hInv ⊢
        refine takeS 6 (v := ?_) (tailAt (by kernel_rfl)) hInv (by decide) rfl (by kernel_rfl) (by kernel_rfl) (by kernel_rfl) (fun _ _ _ h => h) (by rfl) (by assumption) ?_ (fun hInv2 => ?_)
        rotate_left
        · (intro w hSw; (try dsimp only at hSw); (try go_split_ands); go_simp <;> with_reducible rfl)
        clear hInv
        have hInv := hInv2
        clear hInv2
        try simp only [Act.put, List.setIfInBounds_toArray, List.set_cons_zero, List.set_cons_succ] at hInv ⊢
        refine takeS 7 (v := ?_) (tailAt (by kernel_rfl)) hInv (by decide) rfl (by kernel_rfl) (by kernel_rfl) (by kernel_rfl) (fun _ _ _ h => h) (by rfl) (by assumption) ?_ (fun hInv2 => ?_)
        rotate_left
        · (intro w hSw; (try dsimp only at hSw); (try go_split_ands); go_simp <;> with_reducible rfl)
        clear hInv
        have hInv := hInv2
        clear hInv2
        try simp only [Act.put, List.setIfInBounds_toArray, List.set_cons_zero, List.set_cons_succ] at hInv ⊢
        refine takeS 8 (v := ?_) (tailAt (by kernel_rfl)) hInv (by decide) rfl (by kernel_rfl) (by kernel_rfl) (by kernel_rfl) (fun _ _ _ h => h) (by rfl) (by assumption) ?_ (fun hInv2 => ?_)
        rotate_left
        · (intro w hSw; (try dsimp only at hSw); (try go_split_ands); go_simp <;> with_reducible rfl)
        clear hInv
        have hInv := hInv2
        clear hInv2
        try simp only [Act.put, List.setIfInBounds_toArray, List.set_cons_zero, List.set_cons_succ] at hInv ⊢
        refine takeS 9 (v := ?_) (tailAt (by kernel_rfl)) hInv (by decide) rfl (by kernel_rfl) (by kernel_rfl) (by kernel_rfl) (fun _ _ _ h => h) (by rfl) (by assumption) ?_ (fun hInv2 => ?_)
        rotate_left
        · (intro w hSw; (try dsimp only at hSw); (try go_split_ands); go_simp <;> with_reducible rfl)
        clear hInv
        have hInv := hInv2
        clear hInv2
        try simp only [Act.put, List.setIfInBounds_toArray, List.set_cons_zero, List.set_cons_succ] at hInv ⊢
        refine takeS 10 (v := ?_) (tailAt (by kernel_rfl)) hInv (by decide) rfl (by kernel_rfl) (by kernel_rfl) (by kernel_rfl) (fun _ _ _ h => h) (by rfl) (by assumption) ?_ (fun hInv2 => ?_)
        rotate_left
        · (intro w hSw; (try dsimp only at hSw); (try go_split_ands); go_simp <;> with_reducible rfl)
        clear hInv
        have hInv := hInv2
        clear hInv2
        try simp only [Act.put, List.setIfInBounds_toArray, List.set_cons_zero, List.set_cons_succ] at hInv ⊢
        refine takeS 11 (v := ?_) (tailAt (by kernel_rfl)) hInv (by decide) rfl (by kernel_rfl) (by kernel_rfl) (by kernel_rfl) (fun _ _ _ h => h) (by rfl) (by assumption) ?_ (fun hInv2 => ?_)
        rotate_left
        · (intro w hSw; (try dsimp only at hSw); (try go_split_ands); go_simp <;> with_reducible rfl)
        clear hInv
        have hInv := hInv2
        clear hInv2
        try simp only [Act.put, List.setIfInBounds_toArray, List.set_cons_zero, List.set_cons_succ] at hInv ⊢
        refine takeS 12 (v := ?_) (tailAt (by kernel_rfl)) hInv (by decide) rfl (by kernel_rfl) (by kernel_rfl) (by kernel_rfl) (fun _ _ _ h => h) (by rfl) (by assumption) ?_ (fun hInv2 => ?_)
        rotate_left
        · (intro w hSw; (try dsimp only at hSw); (try go_split_ands); go_simp <;> with_reducible rfl)
        clear hInv
        have hInv := hInv2
        clear hInv2
        try simp only [Act.put, List.setIfInBounds_toArray, List.set_cons_zero, List.set_cons_succ] at hInv ⊢
        refine takeS 13 (v := ?_) (tailAt (by kernel_rfl)) hInv (by decide) rfl (by kernel_rfl) (by kernel_rfl) (by kernel_rfl) (fun _ _ _ h => h) (by rfl) (by assumption) ?_ (fun hInv2 => ?_)
        rotate_left
        · (intro w hSw; (try dsimp only at hSw); (try go_split_ands); go_simp <;> with_reducible rfl)
        clear hInv
        have hInv := hInv2
        clear hInv2
        try simp only [Act.put, List.setIfInBounds_toArray, List.set_cons_zero, List.set_cons_succ] at hInv ⊢
        refine takeS 14 (v := ?_) (tailAt (by kernel_rfl)) hInv (by decide) rfl (by kernel_rfl) (by kernel_rfl) (by kernel_rfl) (fun _ _ _ h => h) (by rfl) (by assumption) ?_ (fun hInv2 => ?_)
        rotate_left
        · (intro w hSw; (try dsimp only at hSw); (try go_split_ands); go_simp <;> with_reducible rfl)
        clear hInv
        have hInv := hInv2
        clear hInv2
        try simp only [Act.put, List.setIfInBounds_toArray, List.set_cons_zero, List.set_cons_succ] at hInv ⊢
        refine takeS 15 (v := ?_) (tailAt (by kernel_rfl)) hInv (by decide) rfl (by kernel_rfl) (by kernel_rfl) (by kernel_rfl) (fun _ _ _ h => h) (by rfl) (by assumption) ?_ (fun hInv2 => ?_)
        rotate_left
        · (intro w hSw; (try dsimp only at hSw); (try go_split_ands); go_simp <;> with_reducible rfl)
        clear hInv
        have hInv := hInv2
        clear hInv2
        try simp only [Act.put, List.setIfInBounds_toArray, List.set_cons_zero, List.set_cons_succ] at hInv ⊢
        refine takeS 16 (v := ?_) (tailAt (by kernel_rfl)) hInv (by decide) rfl (by kernel_rfl) (by kernel_rfl) (by kernel_rfl) (fun _ _ _ h => h) (by rfl) (by assumption) ?_ (fun hInv2 => ?_)
        rotate_left
        · (intro w hSw; (try dsimp only at hSw); (try go_split_ands); go_simp <;> with_reducible rfl)
        clear hInv
        have hInv := hInv2
        clear hInv2
        try simp only [Act.put, List.setIfInBounds_toArray, List.set_cons_zero, List.set_cons_succ] at hInv ⊢
        refine oneS 17 hInv (by decide) rfl (by kernel_rfl) (fun K hK => ?_)
        go_simp
        (have hb := (Below.refl wr.drew.heap.size wr.drew).alloc (Nat.le_refl _) (.cells #[.int .i64 0, .int .i64 0, .int .u64 0] (38 : Nat)))
        refine hK.out _ _ ?_ (fun hHeld2 hInv2 => ?_)
        · (try dsimp only)
          (first | assumption | (exact ⟨dA, (Below.refl _ _).drew⟩) | ((try go_split_ands); exact ⟨cellK (by assumption) hb, Below.trans (by assumption) (hb.mono (Below.size (by assumption)))⟩))
        clear hK K hHeld hInv
        have hHeld := hHeld2
        have hInv := hInv2
        clear hHeld2 hInv2
        try simp only [Act.put, List.setIfInBounds_toArray, List.set_cons_zero, List.set_cons_succ] at hInv ⊢
        refine lastS 18 rfl (by decide) (by kernel_rfl) (fun K hK => ?_)
        go_simp
        refine hK.out _ _ ?_
        clear hK K
        refine wpAnyS_done (by kernel_rfl) ?_ _
        clear hHeld hInv hb
        by_cases hz : av % 3 = 0
        · have z4 : (av : Int) % 3 = 0 := by omega
          obtain ⟨U, hU⟩ : ∃ U, U = 18446744073709551615 - V := ⟨_, rfl⟩
          have r7 : bits .xor .u64 IntKind.u64.max (V : Int) = (U : Int) := by rw [hU]; exact not_walk V hV2
          have r8 : Hid ((if IntKind.u64.signed = true then (-1 : Int) else IntKind.u64.max) = IntKind.u64.max) := Lib.hid rfl
          have hU2 : U < 18446744073709551616 := by omega
          replace hU := Lib.hid hU
          have hbA : Below wr.heap.size wr (wr.alloc (.cells #[.int .i64 1, .int .i64 (p : Int), .int .u64 (V : Nat)] (38 : Nat))).drew := ((Below.refl _ _).alloc (Nat.le_refl _) _).drew
          obtain ⟨b0, b1, b2⟩ := C3.new wr (.int .i64 1) (.int .i64 (p : Int)) (.int .u64 (V : Nat)) (38 : Nat)
          have dA2 := cellK dA hbA
          clear hbA
          have hbW : Below wr.heap.size wr (wr.alloc (.cells #[.int .i64 2, .int .i64 (p : Int), .int .u64 (U : Nat)] (38 : Nat))).drew := ((Below.refl _ _).alloc (Nat.le_refl _) _).drew
          have hkW : C3 (wr.alloc (.cells #[.int .i64 2, .int .i64 (p : Int), .int .u64 (U : Nat)] (38 : Nat))).drew wr.heap.size (.int .i64 2) (.int .i64 (p : Int)) (.int .u64 (U : Nat)) := C3.new _ _ _ _ _
          obtain ⟨c0, c1, c2⟩ := id hkW
          have hTW := hT.keep hbW
          have hBW := hB.trans (hbW.mono hB.size)
          obtain ⟨x1, w4, hr1, hT4, hB4, hC4⟩ := hTW.push hBW.size 2 (p : Int) U (by have := hlen.out; omega)
          have e1 : (wr.alloc (.cells #[.int .i64 2, .int .i64 (p : Int), .int .u64 (U : Nat)] (38 : Nat))).drew.alloc (.cells #[.int .i64 2, .int .i64 (p : Int), .int .u64 (U : Nat)] (38 : Nat)) = ((wr.alloc (.cells #[.int .i64 2, .int .i64 (p : Int), .int .u64 (U : Nat)] (38 : Nat))).alloc (.cells #[.int .i64 2, .int .i64 (p : Int), .int .u64 (U : Nat)] (38 : Nat))).drew := rfl
          have e2 : (wr.alloc (.cells #[.int .i64 2, .int .i64 (p : Int), .int .u64 (U : Nat)] (38 : Nat))).drew.heap.size = wr.heap.size + 1 := by show (wr.alloc (.cells #[.int .i64 2, .int .i64 (p : Int), .int .u64 (U : Nat)] (38 : Nat))).heap.size = _; simp
          rw [e1, e2] at hr1
          clear e1 e2
          have hkX := hC4 _ _ _ _ hkW (hT.fresh (Nat.le_refl _))
          have hBX := hBW.trans hB4
          obtain ⟨x3, wa, hr2, hT5, hB5, _⟩ := hT4.rot.rot.push hBX.size 2 (p : Int) U (by have := hlen.out; omega)
          have hBY := hBX.trans hB5
          replace hT5 := hT5.rot
          have hinv2 := Lib.hid (hinv.out.addL (o := (2, (p : Int), U)) hU2 (fun i j h1 h2 => by rw [hU.out, hV.out]; exact one_and _ (by omega) h1 (by have := hq2; omega)))
          have hlen2 : Hid ((L ++ [(2, (p : Int), U)]).length ≤ j + 1 ∧ M.length ≤ j ∧ (X ++ [(2, (p : Int), U)]).length ≤ 2 * j + 1) := Lib.hid (by have := hlen.out; simp only [List.length_append, List.length_cons, List.length_nil]; omega)
          generalize L ++ [(2, (p : Int), U)] = La at *
          generalize X ++ [(2, (p : Int), U)] = Xa at *
          obtain ⟨d0, d1, d2⟩ := id hkX
          clear hbW hTW hT4 hC4 hkW hkX hBW hBX hB4 hB5 hinv hlen hT hB
          go_wp2_with (at_builtin; (try simp only [r8.out, r7]); first | (refine wpList_append_run rfl _ _ 22 rfl _ _ _ rfl rfl hr1 ?_) | (refine wpList_append_run rfl _ _ 22 rfl _ _ _ rfl rfl hr2 ?_))
          clear r0 r1 r1' r2 r2' r3 z1 z2 z3 z4 dA2 hx1 hq2 hV2 hz d0 d1 d2 c0 c1 c2 hr1 hr2
          have hinv := hinv2
          have hlen := hlen2
          have hT := hT5
          have hBa := hBY
          clear hinv2 hlen2 hT5 hBY
          obtain ⟨g2, o2, hA2, _, _, dA⟩ := hC3.out wa j hBa hjb
          obtain rfl := hA2
          have hx1 := hAb.out j hjb
          generalize b.getD j 0 = bv at *
          obtain ⟨p, hp⟩ : ∃ p, p = bv % n := ⟨_, rfl⟩
          obtain ⟨kk, hkk⟩ : ∃ kk, kk = 64 - k := ⟨_, rfl⟩
          obtain ⟨rr, hrr⟩ : ∃ rr, rr = bv % kk := ⟨_, rfl⟩
          have hr2 : rr < kk := by rw [hrr]; exact Nat.mod_lt _ (by omega)
          obtain ⟨q, hq⟩ : ∃ q, q = k + rr := ⟨_, rfl⟩
          have hq2 : k ≤ q ∧ q < 64 := by omega
          have r2 : (bv : Int) % (kk : Int) = (rr : Int) := by rw [hrr, Int.natCast_emod]
          have r2' : (bv : Int).tmod (kk : Int) = (rr : Int) := by rw [Int.tmod_eq_emod_of_nonneg (by omega)]; exact r2
          have r5 : IntKind.i64.wrap (64 - (k : Int)) = (kk : Int) := by rw [IntKind.wrap_i64]; omega
          have r6 : IntKind.i64.wrap ((k : Int) + (rr : Int)) = (q : Int) := by rw [IntKind.wrap_i64]; omega
          have z2 : ¬ (kk = 0) := by omega
          replace hrr := Lib.hid hrr
          replace hkk := Lib.hid hkk
          have r0 : IntKind.i64.wrap ((bv : Nat) : Int) = (bv : Int) := by rw [IntKind.wrap_i64]; omega
          have r1 : (bv : Int) % (n : Int) = (p : Int) := by rw [hp, Int.natCast_emod]
          have r1' : (bv : Int).tmod (n : Int) = (p : Int) := by rw [Int.tmod_eq_emod_of_nonneg (by omega)]; exact r1
          have z1 : ¬ (n = 0) := by omega
          have z3 : (q : Int) < 64 := by omega
          obtain ⟨V, hV⟩ : ∃ V, V = 2 ^ q := ⟨_, rfl⟩
          have hV2 : V < 18446744073709551616 := by rw [hV]; exact Nat.pow_lt_pow_right (n := 64) (by decide : 1 < 2) (by omega)
          have r3 : IntKind.u64.wrap (2 ^ q) = (V : Int) := by rw [hV]; exact wrap_pow q (by omega)
          replace hp := Lib.hid hp
          replace hq := Lib.hid hq
          replace hV := Lib.hid hV
          go_wp2_with fail
          refine wp_region_tail (S := (fun w' => w'.cell? ⟨g2, o2 + j, none⟩ = some (.int .u8 (bv : Nat)) ∧ Below wa.heap.size wa w')) (n := 21) (by kernel_rfl) ?_ (fun hHeld hInv => ?_) (by decide)
          · (try dsimp only)
            (first | assumption | (exact ⟨dA, (Below.refl _ _).drew⟩) | ((try go_split_ands); exact ⟨cellK (by assumption) hb, Below.trans (by assumption) (hb.mono (Below.size (by assumption)))⟩))
          refine takeS 0 (v := ?_) (tailAt (by kernel_rfl)) hInv (by decide) rfl (by kernel_rfl) (by kernel_rfl) (by kernel_rfl) (fun _ _ _ h => h) (by rfl) (by assumption) ?_ (fun hInv2 => ?_)
          rotate_left
          · (intro w hSw; (try dsimp only at hSw); (try go_split_ands); go_simp <;> with_reducible rfl)
          clear hInv
          have hInv := hInv2
          clear hInv2
          try simp only [Act.put, List.setIfInBounds_toArray, List.set_cons_zero, List.set_cons_succ] at hInv ⊢
          refine takeS 1 (v := ?_) (tailAt (by kernel_rfl)) hInv (by decide) rfl (by kernel_rfl) (by kernel_rfl) (by kernel_rfl) (fun _ _ _ h => h) (by rfl) (by assumption) ?_ (fun hInv2 => ?_)
          rotate_left
          · (intro w hSw; (try dsimp only at hSw); (try go_split_ands); go_simp <;> with_reducible rfl)
          clear hInv
          have hInv := hInv2
          clear hInv2
          try simp only [Act.put, List.setIfInBounds_toArray, List.set_cons_zero, List.set_cons_succ] at hInv ⊢
          refine takeS 2 (v := ?_) (tailAt (by kernel_rfl)) hInv (by decide) rfl (by kernel_rfl) (by kernel_rfl) (by kernel_rfl) (fun _ _ _ h => h) (by rfl) (by assumption) ?_ (fun hInv2 => ?_)
          rotate_left
          · (intro w hSw; (try dsimp only at hSw); (try go_split_ands); go_simp <;> with_reducible rfl)
          clear hInv
          have hInv := hInv2
          clear hInv2
          try simp only [Act.put, List.setIfInBounds_toArray, List.set_cons_zero, List.set_cons_succ] at hInv ⊢
          refine takeS 3 (v := ?_) (tailAt (by kernel_rfl)) hInv (by decide) rfl (by kernel_rfl) (by kernel_rfl) (by kernel_rfl) (fun _ _ _ h => h) (by rfl) (by assumption) ?_ (fun hInv2 => ?_)
          rotate_left
          · (intro w hSw; (try dsimp only at hSw); (try go_split_ands); go_simp <;> with_reducible rfl)
          clear hInv
          have hInv := hInv2
          clear hInv2
          try simp only [Act.put, List.setIfInBounds_toArray, List.set_cons_zero, List.set_cons_succ] at hInv ⊢
          refine takeS 4 (v := ?_) (tailAt (by kernel_rfl)) hInv (by decide) rfl (by kernel_rfl) (by kernel_rfl) (by kernel_rfl) (fun _ _ _ h => h) (by rfl) (by assumption) ?_ (fun hInv2 => ?_)
          rotate_left
          · (intro w hSw; (try dsimp only at hSw); (try go_split_ands); go_simp <;> with_reducible rfl)
          clear hInv
          have hInv := hInv2
          clear hInv2
          try simp only [Act.put, List.setIfInBounds_toArray, List.set_cons_zero, List.set_cons_succ] at hInv ⊢
          refine takeS 5 (v := ?_) (tailAt (by kernel_rfl)) hInv (by decide) rfl (by kernel_rfl) (by kernel_rfl) (by kernel_rfl) (fun _ _ _ h => h) (by rfl) (by assumption) ?_ (fun hInv2 => ?_)
          rotate_left
          · (intro w hSw; (try dsimp only at hSw); (try go_split_ands); go_simp <;> with_reducible rfl)
          clear hInv
          have hInv := hInv2
          clear hInv2
          try simp only [Act.put, List.setIfInBounds_toArray, List.set_cons_zero, List.set_cons_succ] at hInv ⊢
          refine takeS 6 (v := ?_) (tailAt (by kernel_rfl)) hInv (by decide) rfl (by kernel_rfl) (by kernel_rfl) (by kernel_rfl) (fun _ _ _ h => h) (by rfl) (by assumption) ?_ (fun hInv2 => ?_)
          rotate_left
          · (intro w hSw; (try dsimp only at hSw); (try go_split_ands); go_simp <;> with_reducible rfl)
          clear hInv
          have hInv := hInv2
          clear hInv2
          try simp only [Act.put, List.setIfInBounds_toArray, List.set_cons_zero, List.set_cons_succ] at hInv ⊢
          refine takeS 7 (v := ?_) (tailAt (by kernel_rfl)) hInv (by decide) rfl (by kernel_rfl) (by kernel_rfl) (by kernel_rfl) (fun _ _ _ h => h) (by rfl) (by assumption) ?_ (fun hInv2 => ?_)
          rotate_left
          · (intro w hSw; (try dsimp only at hSw); (try go_split_ands); go_simp <;> with_reducible rfl)
          clear hInv
          have hInv := hInv2
          clear hInv2
          try simp only [Act.put, List.setIfInBounds_toArray, List.set_cons_zero, List.set_cons_succ] at hInv ⊢
          refine takeS 8 (v := ?_) (tailAt (by kernel_rfl)) hInv (by decide) rfl (by kernel_rfl) (by kernel_rfl) (by kernel_rfl) (fun _ _ _ h => h) (by rfl) (by assumption) ?_ (fun hInv2 => ?_)
          rotate_left
          · (intro w hSw; (try dsimp only at hSw); (try go_split_ands); go_simp <;> with_reducible rfl)
          clear hInv
          have hInv := hInv2
          clear hInv2
          try simp only [Act.put, List.setIfInBounds_toArray, List.set_cons_zero, List.set_cons_succ] at hInv ⊢
          refine takeS 9 (v := ?_) (tailAt (by kernel_rfl)) hInv (by decide) rfl (by kernel_rfl) (by kernel_rfl) (by kernel_rfl) (fun _ _ _ h => h) (by rfl) (by assumption) ?_ (fun hInv2 => ?_)
          rotate_left
          · (intro w hSw; (try dsimp only at hSw); (try go_split_ands); go_simp <;> with_reducible rfl)
          clear hInv
          have hInv := hInv2
          clear hInv2
          try simp only [Act.put, List.setIfInBounds_toArray, List.set_cons_zero, List.set_cons_succ] at hInv ⊢
          refine takeS 10 (v := ?_) (tailAt (by kernel_rfl)) hInv (by decide) rfl (by kernel_rfl) (by kernel_rfl) (by kernel_rfl) (fun _ _ _ h => h) (by rfl) (by assumption) ?_ (fun hInv2 => ?_)
          rotate_left
          · (intro w hSw; (try dsimp only at hSw); (try go_split_ands); go_simp <;> with_reducible rfl)
          clear hInv
          have hInv := hInv2
          clear hInv2
          try simp only [Act.put, List.setIfInBounds_toArray, List.set_cons_zero, List.set_cons_succ] at hInv ⊢
          refine takeS 11 (v := ?_) (tailAt (by kernel_rfl)) hInv (by decide) rfl (by kernel_rfl) (by kernel_rfl) (by kernel_rfl) (fun _ _ _ h => h) (by rfl) (by assumption) ?_ (fun hInv2 => ?_)
          rotate_left
          · (intro w hSw; (try dsimp only at hSw); (try go_split_ands); go_simp <;> with_reducible rfl)
          clear hInv
          have hInv := hInv2
          clear hInv2
          try simp only [Act.put, List.setIfInBounds_toArray, List.set_cons_zero, List.set_cons_succ] at hInv ⊢
          refine takeS 12 (v := ?_) (tailAt (by kernel_rfl)) hInv (by decide) rfl (by kernel_rfl) (by kernel_rfl) (by kernel_rfl) (fun _ _ _ h => h) (by rfl) (by assumption) ?_ (fun hInv2 => ?_)
          rotate_left
          · (intro w hSw; (try dsimp only at hSw); (try go_split_ands); go_simp <;> with_reducible rfl)
          clear hInv
          have hInv := hInv2
          clear hInv2
          try simp only [Act.put, List.setIfInBounds_toArray, List.set_cons_zero, List.set_cons_succ] at hInv ⊢
          refine takeS 13 (v := ?_) (tailAt (by kernel_rfl)) hInv (by decide) rfl (by kernel_rfl) (by kernel_rfl) (by kernel_rfl) (fun _ _ _ h => h) (by rfl) (by assumption) ?_ (fun hInv2 => ?_)
          rotate_left
          · (intro w hSw; (try dsimp only at hSw); (try go_split_ands); go_simp <;> with_reducible rfl)
          clear hInv
          have hInv := hInv2
          clear hInv2
          try simp only [Act.put, List.setIfInBounds_toArray, List.set_cons_zero, List.set_cons_succ] at hInv ⊢
          refine takeS 14 (v := ?_) (tailAt (by kernel_rfl)) hInv (by decide) rfl (by kernel_rfl) (by kernel_rfl) (by kernel_rfl) (fun _ _ _ h => h) (by rfl) (by assumption) ?_ (fun hInv2 => ?_)
          rotate_left
          · (intro w hSw; (try dsimp only at hSw); (try go_split_ands); go_simp <;> with_reducible rfl)
          clear hInv
          have hInv := hInv2
          clear hInv2
          try simp only [Act.put, List.setIfInBounds_toArray, List.set_cons_zero, List.set_cons_succ] at hInv ⊢
          refine takeS 15 (v := ?_) (tailAt (by kernel_rfl)) hInv (by decide) rfl (by kernel_rfl) (by kernel_rfl) (by kernel_rfl) (fun _ _ _ h => h) (by rfl) (by assumption) ?_ (fun hInv2 => ?_)
          rotate_left
          · (intro w hSw; (try dsimp only at hSw); (try go_split_ands); go_simp <;> with_reducible rfl)
          clear hInv
          have hInv := hInv2
          clear hInv2
          try simp only [Act.put, List.setIfInBounds_toArray, List.set_cons_zero, List.set_cons_succ] at hInv ⊢
          refine takeS 16 (v := ?_) (tailAt (by kernel_rfl)) hInv (by decide) rfl (by kernel_rfl) (by kernel_rfl) (by kernel_rfl) (fun _ _ _ h => h) (by rfl) (by assumption) ?_ (fun hInv2 => ?_)
          rotate_left
          · (intro w hSw; (try dsimp only at hSw); (try go_split_ands); go_simp <;> with_reducible rfl)
          clear hInv
          have hInv := hInv2
          clear hInv2
          try simp only [Act.put, List.setIfInBounds_toArray, List.set_cons_zero, List.set_cons_succ] at hInv ⊢
          refine takeS 17 (v := ?_) (tailAt (by kernel_rfl)) hInv (by decide) rfl (by kernel_rfl) (by kernel_rfl) (by kernel_rfl) (fun _ _ _ h => h) (by rfl) (by assumption) ?_ (fun hInv2 => ?_)
          rotate_left
          · (intro w hSw; (try dsimp only at hSw); (try go_split_ands); go_simp <;> with_reducible rfl)
          clear hInv
          have hInv := hInv2
          clear hInv2
          try simp only [Act.put, List.setIfInBounds_toArray, List.set_cons_zero, List.set_cons_succ] at hInv ⊢
          refine takeS 18 (v := ?_) (tailAt (by kernel_rfl)) hInv (by decide) rfl (by kernel_rfl) (by kernel_rfl) (by kernel_rfl) (fun _ _ _ h => h) (by rfl) (by assumption) ?_ (fun hInv2 => ?_)
          rotate_left
          · (intro w hSw; (try dsimp only at hSw); (try go_split_ands); go_simp <;> with_reducible rfl)
          clear hInv
          have hInv := hInv2
          clear hInv2
          try simp only [Act.put, List.setIfInBounds_toArray, List.set_cons_zero, List.set_cons_succ] at hInv ⊢
          refine takeS 19 (v := ?_) (tailAt (by kernel_rfl)) hInv (by decide) rfl (by kernel_rfl) (by kernel_rfl) (by kernel_rfl) (fun _ _ _ h => h) (by rfl) (by assumption) ?_ (fun hInv2 => ?_)
          rotate_left
          · (intro w hSw; (try dsimp only at hSw); (try go_split_ands); go_simp <;> with_reducible rfl)
          clear hInv
          have hInv := hInv2
          clear hInv2
          try simp only [Act.put, List.setIfInBounds_toArray, List.set_cons_zero, List.set_cons_succ] at hInv ⊢
          refine oneS 20 hInv (by decide) rfl (by kernel_rfl) (fun K hK => ?_)
          go_simp
          (have hb := (Below.refl wa.drew.heap.size wa.drew).alloc (Nat.le_refl _) (.cells #[.int .i64 0, .int .i64 0, .int .u64 0] (38 : Nat)))
          refine hK.out _ _ ?_ (fun hHeld2 hInv2 => ?_)
          · (try dsimp only)
            (first | assumption | (exact ⟨dA, (Below.refl _ _).drew⟩) | ((try go_split_ands); exact ⟨cellK (by assumption) hb, Below.trans (by assumption) (hb.mono (Below.size (by assumption)))⟩))
          clear hK K hHeld hInv
          have hHeld := hHeld2
          have hInv := hInv2
          clear hHeld2 hInv2
          try simp only [Act.put, List.setIfInBounds_toArray, List.set_cons_zero, List.set_cons_succ] at hInv ⊢
          refine lastS 21 rfl (by decide) (by kernel_rfl) (fun K hK => ?_)
          go_simp
          refine hK.out _ _ ?_
          clear hK K
          refine wpAnyS_done (by kernel_rfl) ?_ _
          clear hHeld hInv hb
          by_cases hz : bv % 3 = 0
          · have z4 : (bv : Int) % 3 = 0 := by omega
            obtain ⟨U, hU⟩ : ∃ U, U = 18446744073709551615 - V := ⟨_, rfl⟩
            have r7 : bits .xor .u64 IntKind.u64.max (V : Int) = (U : Int) := by rw [hU]; exact not_walk V hV2
            have r8 : Hid ((if IntKind.u64.signed = true then (-1 : Int) else IntKind.u64.max) = IntKind.u64.max) := Lib.hid rfl
            have hU2 : U < 18446744073709551616 := by omega
            replace hU := Lib.hid hU
            have hbA : Below wa.heap.size wa (wa.alloc (.cells #[.int .i64 1, .int .i64 (p : Int), .int .u64 (V : Nat)] (38 : Nat))).drew := ((Below.refl _ _).alloc (Nat.le_refl _) _).drew
            obtain ⟨b0, b1, b2⟩ := C3.new wa (.int .i64 1) (.int .i64 (p : Int)) (.int .u64 (V : Nat)) (38 : Nat)
            have dA2 := cellK dA hbA
            clear hbA
            have hbW : Below wa.heap.size wa (wa.alloc (.cells #[.int .i64 2, .int .i64 (p : Int), .int .u64 (U : Nat)] (38 : Nat))).drew := ((Below.refl _ _).alloc (Nat.le_refl _) _).drew
            have hkW : C3 (wa.alloc (.cells #[.int .i64 2, .int .i64 (p : Int), .int .u64 (U : Nat)] (38 : Nat))).drew wa.heap.size (.int .i64 2) (.int .i64 (p : Int)) (.int .u64 (U : Nat)) := C3.new _ _ _ _ _
            obtain ⟨c0, c1, c2⟩ := id hkW
            have hTW := hT.keep hbW
            have hBW := hBa.trans (hbW.mono hBa.size)
            obtain ⟨x1, w4, hr1, hT4, hB4, hC4⟩ := hTW.rot.push hBW.size 2 (p : Int) U (by have := hlen.out; omega)
            have e1 : (wa.alloc (.cells #[.int .i64 2, .int .i64 (p : Int), .int .u64 (U : Nat)] (38 : Nat))).drew.alloc (.cells #[.int .i64 2, .int .i64 (p : Int), .int .u64 (U : Nat)] (38 : Nat)) = ((wa.alloc (.cells #[.int .i64 2, .int .i64 (p : Int), .int .u64 (U : Nat)] (38 : Nat))).alloc (.cells #[.int .i64 2, .int .i64 (p : Int), .int .u64 (U : Nat)] (38 : Nat))).drew := rfl
            have e2 : (wa.alloc (.cells #[.int .i64 2, .int .i64 (p : Int), .int .u64 (U : Nat)] (38 : Nat))).drew.heap.size = wa.heap.size + 1 := by show (wa.alloc (.cells #[.int .i64 2, .int .i64 (p : Int), .int .u64 (U : Nat)] (38 : Nat))).heap.size = _; simp
            rw [e1, e2] at hr1
            clear e1 e2
            have hkX := hC4 _ _ _ _ hkW (hT.rot.fresh (Nat.le_refl _))
            have hBX := hBW.trans hB4
            obtain ⟨x3, w5, hr2, hT5, hB5, _⟩ := hT4.rot.push hBX.size 2 (p : Int) U (by have := hlen.out; omega)
            have hBY := hBX.trans hB5
            replace hT5 := hT5.rot
            have hinv2 := Lib.hid (hinv.out.addM (o := (2, (p : Int), U)) hU2 (fun i j h1 h2 => by rw [hU.out, hV.out]; exact one_and _ (by omega) h1 (by have := hq2; omega)))
            have hlen2 : Hid (La.length ≤ j + 1 ∧ (M ++ [(2, (p : Int), U)]).length ≤ j + 1 ∧ (Xa ++ [(2, (p : Int), U)]).length ≤ 2 * j + 2) := Lib.hid (by have := hlen.out; simp only [List.length_append, List.length_cons, List.length_nil]; omega)
            generalize M ++ [(2, (p : Int), U)] = Mb at *
            generalize Xa ++ [(2, (p : Int), U)] = Xb at *
            obtain ⟨d0, d1, d2⟩ := id hkX
            clear hbW hTW hT4 hC4 hkW hkX hBW hBX hB4 hB5 hinv hlen hT hBa
            go_wp2_with (at_builtin; (try simp only [r8.out, r7]); first | (refine wpList_append_run rfl _ _ 22 rfl _ _ _ rfl rfl hr1 ?_) | (refine wpList_append_run rfl _ _ 22 rfl _ _ _ rfl rfl hr2 ?_))
            have hlenF : Hid (La.length ≤ j + 1 ∧ Mb.length ≤ j + 1 ∧ Xb.length ≤ 2 * (j + 1)) := Lib.hid (by have := hlen2.out; omega)
            clear hlen2
            go_roundw
            case rel => exact ⟨j + 1, _, _, _, by omega, by go_num, hinv2, hlenF, hT5, hBY⟩
            case measure => simp [intOf]; omega
          · have z4 : ¬ ((bv : Int) % 3 = 0) := by omega
            have hbW : Below wa.heap.size wa (wa.alloc (.cells #[.int .i64 1, .int .i64 (p : Int), .int .u64 (V : Nat)] (38 : Nat))).drew := ((Below.refl _ _).alloc (Nat.le_refl _) _).drew
            have hkW : C3 (wa.alloc (.cells #[.int .i64 1, .int .i64 (p : Int), .int .u64 (V : Nat)] (38 : Nat))).drew wa.heap.size (.int .i64 1) (.int .i64 (p : Int)) (.int .u64 (V : Nat)) := C3.new _ _ _ _ _
            have dA2 := cellK dA hbW
            obtain ⟨c0, c1, c2⟩ := id hkW
            have hTW := hT.keep hbW
            have hBW := hBa.trans (hbW.mono hBa.size)
            obtain ⟨x1, w4, hr1, hT4, hB4, hC4⟩ := hTW.rot.push hBW.size 1 (p : Int) V (by have := hlen.out; omega)
            have e1 : (wa.alloc (.cells #[.int .i64 1, .int .i64 (p : Int), .int .u64 (V : Nat)] (38 : Nat))).drew.alloc (.cells #[.int .i64 1, .int .i64 (p : Int), .int .u64 (V : Nat)] (38 : Nat)) = ((wa.alloc (.cells #[.int .i64 1, .int .i64 (p : Int), .int .u64 (V : Nat)] (38 : Nat))).alloc (.cells #[.int .i64 1, .int .i64 (p : Int), .int .u64 (V : Nat)] (38 : Nat))).drew := rfl
            have e2 : (wa.alloc (.cells #[.int .i64 1, .int .i64 (p : Int), .int .u64 (V : Nat)] (38 : Nat))).drew.heap.size = wa.heap.size + 1 := by show (wa.alloc (.cells #[.int .i64 1, .int .i64 (p : Int), .int .u64 (V : Nat)] (38 : Nat))).heap.size = _; simp
            rw [e1, e2] at hr1
            clear e1 e2
            have hkX := hC4 _ _ _ _ hkW (hT.rot.fresh (Nat.le_refl _))
            have hBX := hBW.trans hB4
            obtain ⟨x3, w5, hr2, hT5, hB5, _⟩ := hT4.rot.push hBX.size 1 (p : Int) V (by have := hlen.out; omega)
            have hBY := hBX.trans hB5
            replace hT5 := hT5.rot
            have hinv2 := Lib.hid (hinv.out.addM (o := (1, (p : Int), V)) hV2 (fun i j h1 h2 => by rw [hV.out]; exact one_or _ (by have := hq2; omega)))
            have hlen2 : Hid (La.length ≤ j + 1 ∧ (M ++ [(1, (p : Int), V)]).length ≤ j + 1 ∧ (Xa ++ [(1, (p : Int), V)]).length ≤ 2 * j + 2) := Lib.hid (by have := hlen.out; simp only [List.length_append, List.length_cons, List.length_nil]; omega)
            generalize M ++ [(1, (p : Int), V)] = Mb at *
            generalize Xa ++ [(1, (p : Int), V)] = Xb at *
            obtain ⟨d0, d1, d2⟩ := id hkX
            clear hbW hTW hT4 hC4 hkW hkX hBW hBX hB4 hB5 hinv hlen hT hBa
            go_wp2_with (at_builtin; first | (refine wpList_append_run rfl _ _ 22 rfl _ _ _ rfl rfl hr1 ?_) | (refine wpList_append_run rfl _ _ 22 rfl _ _ _ rfl rfl hr2 ?_))
            have hlenF : Hid (La.length ≤ j + 1 ∧ Mb.length ≤ j + 1 ∧ Xb.length ≤ 2 * (j + 1)) := Lib.hid (by have := hlen2.out; omega)
            clear hlen2
            go_roundw
            case rel => exact ⟨j + 1, _, _, _, by omega, by go_num, hinv2, hlenF, hT5, hBY⟩
            case measure => simp [intOf]; omega
        · have z4 : ¬ ((av : Int) % 3 = 0) := by omega
          have hbW : Below wr.heap.size wr (wr.alloc (.cells #[.int .i64 1, .int .i64 (p : Int), .int .u64 (V : Nat)] (38 : Nat))).drew := ((Below.refl _ _).alloc (Nat.le_refl _) _).drew
          have hkW : C3 (wr.alloc (.cells #[.int .i64 1, .int .i64 (p : Int), .int .u64 (V : Nat)] (38 : Nat))).drew wr.heap.size (.int .i64 1) (.int .i64 (p : Int)) (.int .u64 (V : Nat)) := C3.new _ _ _ _ _
          have dA2 := cellK dA hbW
          obtain ⟨c0, c1, c2⟩ := id hkW
          have hTW := hT.keep hbW
          have hBW := hB.trans (hbW.mono hB.size)
          obtain ⟨x1, w4, hr1, hT4, hB4, hC4⟩ := hTW.push hBW.size 1 (p : Int) V (by have := hlen.out; omega)
          have e1 : (wr.alloc (.cells #[.int .i64 1, .int .i64 (p : Int), .int .u64 (V : Nat)] (38 : Nat))).drew.alloc (.cells #[.int .i64 1, .int .i64 (p : Int), .int .u64 (V : Nat)] (38 : Nat)) = ((wr.alloc (.cells #[.int .i64 1, .int .i64 (p : Int), .int .u64 (V : Nat)] (38 : Nat))).alloc (.cells #[.int .i64 1, .int .i64 (p : Int), .int .u64 (V : Nat)] (38 : Nat))).drew := rfl
          have e2 : (wr.alloc (.cells #[.int .i64 1, .int .i64 (p : Int), .int .u64 (V : Nat)] (38 : Nat))).drew.heap.size = wr.heap.size + 1 := by show (wr.alloc (.cells #[.int .i64 1, .int .i64 (p : Int), .int .u64 (V : Nat)] (38 : Nat))).heap.size = _; simp
          rw [e1, e2] at hr1
          clear e1 e2
          have hkX := hC4 _ _ _ _ hkW (hT.fresh (Nat.le_refl _))
          have hBX := hBW.trans hB4
          obtain ⟨x3, wa, hr2, hT5, hB5, _⟩ := hT4.rot.rot.push hBX.size 1 (p : Int) V (by have := hlen.out; omega)
          have hBY := hBX.trans hB5
          replace hT5 := hT5.rot
          have hinv2 := Lib.hid (hinv.out.addL (o := (1, (p : Int), V)) hV2 (fun i j h1 h2 => by rw [hV.out]; exact one_or _ (by have := hq2; omega)))
          have hlen2 : Hid ((L ++ [(1, (p : Int), V)]).length ≤ j + 1 ∧ M.length ≤ j ∧ (X ++ [(1, (p : Int), V)]).length ≤ 2 * j + 1) := Lib.hid (by have := hlen.out; simp only [List.length_append, List.length_cons, List.length_nil]; omega)
          generalize L ++ [(1, (p : Int), V)] = La at *
          generalize X ++ [(1, (p : Int), V)] = Xa at *
          obtain ⟨d0, d1, d2⟩ := id hkX
          clear hbW hTW hT4 hC4 hkW hkX hBW hBX hB4 hB5 hinv hlen hT hB
          go_wp2_with (at_builtin; first | (refine wpList_append_run rfl _ _ 22 rfl _ _ _ rfl rfl hr1 ?_) | (refine wpList_append_run rfl _ _ 22 rfl _ _ _ rfl rfl hr2 ?_))
          clear r0 r1 r1' r2 r2' r3 z1 z2 z3 z4 dA2 hx1 hq2 hV2 hz d0 d1 d2 c0 c1 c2 hr1 hr2
          have hinv := hinv2
          have hlen := hlen2
          have hT := hT5
          have hBa := hBY
          clear hinv2 hlen2 hT5 hBY
          obtain ⟨g2, o2, hA2, _, _, dA⟩ := hC3.out wa j hBa hjb
          obtain rfl := hA2
          have hx1 := hAb.out j hjb
          generalize b.getD j 0 = bv at *
          obtain ⟨p, hp⟩ : ∃ p, p = bv % n := ⟨_, rfl⟩
          obtain ⟨kk, hkk⟩ : ∃ kk, kk = 64 - k := ⟨_, rfl⟩
          obtain ⟨rr, hrr⟩ : ∃ rr, rr = bv % kk := ⟨_, rfl⟩
          have hr2 : rr < kk := by rw [hrr]; exact Nat.mod_lt _ (by omega)
          obtain ⟨q, hq⟩ : ∃ q, q = k + rr := ⟨_, rfl⟩
          have hq2 : k ≤ q ∧ q < 64 := by omega
          have r2 : (bv : Int) % (kk : Int) = (rr : Int) := by rw [hrr, Int.natCast_emod]
          have r2' : (bv : Int).tmod (kk : Int) = (rr : Int) := by rw [Int.tmod_eq_emod_of_nonneg (by omega)]; exact r2
          have r5 : IntKind.i64.wrap (64 - (k : Int)) = (kk : Int) := by rw [IntKind.wrap_i64]; omega
          have r6 : IntKind.i64.wrap ((k : Int) + (rr : Int)) = (q : Int) := by rw [IntKind.wrap_i64]; omega
          have z2 : ¬ (kk = 0) := by omega
          replace hrr := Lib.hid hrr
          replace hkk := Lib.hid hkk
          have r0 : IntKind.i64.wrap ((bv : Nat) : Int) = (bv : Int) := by rw [IntKind.wrap_i64]; omega
          have r1 : (bv : Int) % (n : Int) = (p : Int) := by rw [hp, Int.natCast_emod]
          have r1' : (bv : Int).tmod (n : Int) = (p : Int) := by rw [Int.tmod_eq_emod_of_nonneg (by omega)]; exact r1
          have z1 : ¬ (n = 0) := by omega
          have z3 : (q : Int) < 64 := by omega
          obtain ⟨V, hV⟩ : ∃ V, V = 2 ^ q := ⟨_, rfl⟩
          have hV2 : V < 18446744073709551616 := by rw [hV]; exact Nat.pow_lt_pow_right (n := 64) (by decide : 1 < 2) (by omega)
          have r3 : IntKind.u64.wrap (2 ^ q) = (V : Int) := by rw [hV]; exact wrap_pow q (by omega)
          replace hp := Lib.hid hp
          replace hq := Lib.hid hq
          replace hV := Lib.hid hV
          go_wp2_with fail
          refine wp_region_tail (S := (fun w' => w'.cell? ⟨g2, o2 + j, none⟩ = some (.int .u8 (bv : Nat)) ∧ Below wa.heap.size wa w')) (n := 21) (by kernel_rfl) ?_ (fun hHeld hInv => ?_) (by decide)
          · (try dsimp only)
            (first | assumption | (exact ⟨dA, (Below.refl _ _).drew⟩) | ((try go_split_ands); exact ⟨cellK (by assumption) hb, Below.trans (by assumption) (hb.mono (Below.size (by assumption)))⟩))
          refine takeS 0 (v := ?_) (tailAt (by kernel_rfl)) hInv (by decide) rfl (by kernel_rfl) (by kernel_rfl) (by kernel_rfl) (fun _ _ _ h => h) (by rfl) (by assumption) ?_ (fun hInv2 => ?_)
          rotate_left
          · (intro w hSw; (try dsimp only at hSw); (try go_split_ands); go_simp <;> with_reducible rfl)
          clear hInv
          have hInv := hInv2
          clear hInv2
          try simp only [Act.put, List.setIfInBounds_toArray, List.set_cons_zero, List.set_cons_succ] at hInv ⊢
          refine takeS 1 (v := ?_) (tailAt (by kernel_rfl)) hInv (by decide) rfl (by kernel_rfl) (by kernel_rfl) (by kernel_rfl) (fun _ _ _ h => h) (by rfl) (by assumption) ?_ (fun hInv2 => ?_)
          rotate_left
          · (intro w hSw; (try dsimp only at hSw); (try go_split_ands); go_simp <;> with_reducible rfl)
          clear hInv
          have hInv := hInv2
          clear hInv2
          try simp only [Act.put, List.setIfInBounds_toArray, List.set_cons_zero, List.set_cons_succ] at hInv ⊢
          refine takeS 2 (v := ?_) (tailAt (by kernel_rfl)) hInv (by decide) rfl (by kernel_rfl) (by kernel_rfl) (by kernel_rfl) (fun _ _ _ h => h) (by rfl) (by assumption) ?_ (fun hInv2 => ?_)
          rotate_left
          · (intro w hSw; (try dsimp only at hSw); (try go_split_ands); go_simp <;> with_reducible rfl)
          clear hInv
          have hInv := hInv2
          clear hInv2
          try simp only [Act.put, List.setIfInBounds_toArray, List.set_cons_zero, List.set_cons_succ] at hInv ⊢
          refine takeS 3 (v := ?_) (tailAt (by kernel_rfl)) hInv (by decide) rfl (by kernel_rfl) (by kernel_rfl) (by kernel_rfl) (fun _ _ _ h => h) (by rfl) (by assumption) ?_ (fun hInv2 => ?_)
          rotate_left
          · (intro w hSw; (try dsimp only at hSw); (try go_split_ands); go_simp <;> with_reducible rfl)
          clear hInv
          have hInv := hInv2
          clear hInv2
          try simp only [Act.put, List.setIfInBounds_toArray, List.set_cons_zero, List.set_cons_succ] at hInv ⊢
          refine takeS 4 (v := ?_) (tailAt (by kernel_rfl)) hInv (by decide) rfl (by kernel_rfl) (by kernel_rfl) (by kernel_rfl) (fun _ _ _ h => h) (by rfl) (by assumption) ?_ (fun hInv2 => ?_)
          rotate_left
          · (intro w hSw; (try dsimp only at hSw); (try go_split_ands); go_simp <;> with_reducible rfl)
          clear hInv
          have hInv := hInv2
          clear hInv2
          try simp only [Act.put, List.setIfInBounds_toArray, List.set_cons_zero, List.set_cons_succ] at hInv ⊢
          refine takeS 5 (v := ?_) (tailAt (by kernel_rfl)) hInv (by decide) rfl (by kernel_rfl) (by kernel_rfl) (by kernel_rfl) (fun _ _ _ h => h) (by rfl) (by assumption) ?_ (fun hInv2 => ?_)
          rotate_left
          · (intro w hSw; (try dsimp only at hSw); (try go_split_ands); go_simp <;> with_reducible rfl)
          clear hInv
          have hInv := hInv2
          clear hInv2
          try simp only [Act.put, List.setIfInBounds_toArray, List.set_cons_zero, List.set_cons_succ] at hInv ⊢
          refine takeS 6 (v := ?_) (tailAt (by kernel_rfl)) hInv (by decide) rfl (by kernel_rfl) (by kernel_rfl) (by kernel_rfl) (fun _ _ _ h => h) (by rfl) (by assumption) ?_ (fun hInv2 => ?_)
          rotate_left
          · (intro w hSw; (try dsimp only at hSw); (try go_split_ands); go_simp <;> with_reducible rfl)
          clear hInv
          have hInv := hInv2
          clear hInv2
          try simp only [Act.put, List.setIfInBounds_toArray, List.set_cons_zero, List.set_cons_succ] at hInv ⊢
          refine takeS 7 (v := ?_) (tailAt (by kernel_rfl)) hInv (by decide) rfl (by kernel_rfl) (by kernel_rfl) (by kernel_rfl) (fun _ _ _ h => h) (by rfl) (by assumption) ?_ (fun hInv2 => ?_)
          rotate_left
          · (intro w hSw; (try dsimp only at hSw); (try go_split_ands); go_simp <;> with_reducible rfl)
          clear hInv
          have hInv := hInv2
          clear hInv2
          try simp only [Act.put, List.setIfInBounds_toArray, List.set_cons_zero, List.set_cons_succ] at hInv ⊢
          refine takeS 8 (v := ?_) (tailAt (by kernel_rfl)) hInv (by decide) rfl (by kernel_rfl) (by kernel_rfl) (by kernel_rfl) (fun _ _ _ h => h) (by rfl) (by assumption) ?_ (fun hInv2 => ?_)
          rotate_left
          · (intro w hSw; (try dsimp only at hSw); (try go_split_ands); go_simp <;> with_reducible rfl)
          clear hInv
          have hInv := hInv2
          clear hInv2
          try simp only [Act.put, List.setIfInBounds_toArray, List.set_cons_zero, List.set_cons_succ] at hInv ⊢
          refine takeS 9 (v := ?_) (tailAt (by kernel_rfl)) hInv (by decide) rfl (by kernel_rfl) (by kernel_rfl) (by kernel_rfl) (fun _ _ _ h => h) (by rfl) (by assumption) ?_ (fun hInv2 => ?_)
          rotate_left
          · (intro w hSw; (try dsimp only at hSw); (try go_split_ands); go_simp <;> with_reducible rfl)
          clear hInv
          have hInv := hInv2
          clear hInv2
          try simp only [Act.put, List.setIfInBounds_toArray, List.set_cons_zero, List.set_cons_succ] at hInv ⊢
          refine takeS 10 (v := ?_) (tailAt (by kernel_rfl)) hInv (by decide) rfl (by kernel_rfl) (by kernel_rfl) (by kernel_rfl) (fun _ _ _ h => h) (by rfl) (by assumption) ?_ (fun hInv2 => ?_)
          rotate_left
          · (intro w hSw; (try dsimp only at hSw); (try go_split_ands); go_simp <;> with_reducible rfl)
          clear hInv
          have hInv := hInv2
          clear hInv2
          try simp only [Act.put, List.setIfInBounds_toArray, List.set_cons_zero, List.set_cons_succ] at hInv ⊢
          refine takeS 11 (v := ?_) (tailAt (by kernel_rfl)) hInv (by decide) rfl (by kernel_rfl) (by kernel_rfl) (by kernel_rfl) (fun _ _ _ h => h) (by rfl) (by assumption) ?_ (fun hInv2 => ?_)
          rotate_left
          · (intro w hSw; (try dsimp only at hSw); (try go_split_ands); go_simp <;> with_reducible rfl)
          clear hInv
          have hInv := hInv2
          clear hInv2
          try simp only [Act.put, List.setIfInBounds_toArray, List.set_cons_zero, List.set_cons_succ] at hInv ⊢
          refine takeS 12 (v := ?_) (tailAt (by kernel_rfl)) hInv (by decide) rfl (by kernel_rfl) (by kernel_rfl) (by kernel_rfl) (fun _ _ _ h => h) (by rfl) (by assumption) ?_ (fun hInv2 => ?_)
          rotate_left
          · (intro w hSw; (try dsimp only at hSw); (try go_split_ands); go_simp <;> with_reducible rfl)
          clear hInv
          have hInv := hInv2
          clear hInv2
          try simp only [Act.put, List.setIfInBounds_toArray, List.set_cons_zero, List.set_cons_succ] at hInv ⊢
          refine takeS 13 (v := ?_) (tailAt (by kernel_rfl)) hInv (by decide) rfl (by kernel_rfl) (by kernel_rfl) (by kernel_rfl) (fun _ _ _ h => h) (by rfl) (by assumption) ?_ (fun hInv2 => ?_)
          rotate_left
          · (intro w hSw; (try dsimp only at hSw); (try go_split_ands); go_simp <;> with_reducible rfl)
          clear hInv
          have hInv := hInv2
          clear hInv2
          try simp only [Act.put, List.setIfInBounds_toArray, List.set_cons_zero, List.set_cons_succ] at hInv ⊢
          refine takeS 14 (v := ?_) (tailAt (by kernel_rfl)) hInv (by decide) rfl (by kernel_rfl) (by kernel_rfl) (by kernel_rfl) (fun _ _ _ h => h) (by rfl) (by assumption) ?_ (fun hInv2 => ?_)
          rotate_left
          · (intro w hSw; (try dsimp only at hSw); (try go_split_ands); go_simp <;> with_reducible rfl)
          clear hInv
          have hInv := hInv2
          clear hInv2
          try simp only [Act.put, List.setIfInBounds_toArray, List.set_cons_zero, List.set_cons_succ] at hInv ⊢
          refine takeS 15 (v := ?_) (tailAt (by kernel_rfl)) hInv (by decide) rfl (by kernel_rfl) (by kernel_rfl) (by kernel_rfl) (fun _ _ _ h => h) (by rfl) (by assumption) ?_ (fun hInv2 => ?_)
          rotate_left
          · (intro w hSw; (try dsimp only at hSw); (try go_split_ands); go_simp <;> with_reducible rfl)
          clear hInv
          have hInv := hInv2
          clear hInv2
          try simp only [Act.put, List.setIfInBounds_toArray, List.set_cons_zero, List.set_cons_succ] at hInv ⊢
          refine takeS 16 (v := ?_) (tailAt (by kernel_rfl)) hInv (by decide) rfl (by kernel_rfl) (by kernel_rfl) (by kernel_rfl) (fun _ _ _ h => h) (by rfl) (by assumption) ?_ (fun hInv2 => ?_)
          rotate_left
          · (intro w hSw; (try dsimp only at hSw); (try go_split_ands); go_simp <;> with_reducible rfl)
          clear hInv
          have hInv := hInv2
          clear hInv2
          try simp only [Act.put, List.setIfInBounds_toArray, List.set_cons_zero, List.set_cons_succ] at hInv ⊢
          refine takeS 17 (v := ?_) (tailAt (by kernel_rfl)) hInv (by decide) rfl (by kernel_rfl) (by kernel_rfl) (by kernel_rfl) (fun _ _ _ h => h) (by rfl) (by assumption) ?_ (fun hInv2 => ?_)
          rotate_left
          · (intro w hSw; (try dsimp only at hSw); (try go_split_ands); go_simp <;> with_reducible rfl)
          clear hInv
          have hInv := hInv2
          clear hInv2
          try simp only [Act.put, List.setIfInBounds_toArray, List.set_cons_zero, List.set_cons_succ] at hInv ⊢
          refine takeS 18 (v := ?_) (tailAt (by kernel_rfl)) hInv (by decide) rfl (by kernel_rfl) (by kernel_rfl) (by kernel_rfl) (fun _ _ _ h => h) (by rfl) (by assumption) ?_ (fun hInv2 => ?_)
          rotate_left
          · (intro w hSw; (try dsimp only at hSw); (try go_split_ands); go_simp <;> with_reducible rfl)
          clear hInv
          have hInv := hInv2
          clear hInv2
          try simp only [Act.put, List.setIfInBounds_toArray, List.set_cons_zero, List.set_cons_succ] at hInv ⊢
          refine takeS 19 (v := ?_) (tailAt (by kernel_rfl)) hInv (by decide) rfl (by kernel_rfl) (by kernel_rfl) (by kernel_rfl) (fun _ _ _ h => h) (by rfl) (by assumption) ?_ (fun hInv2 => ?_)
          rotate_left
          · (intro w hSw; (try dsimp only at hSw); (try go_split_ands); go_simp <;> with_reducible rfl)
          clear hInv
          have hInv := hInv2
          clear hInv2
          try simp only [Act.put, List.setIfInBounds_toArray, List.set_cons_zero, List.set_cons_succ] at hInv ⊢
          refine oneS 20 hInv (by decide) rfl (by kernel_rfl) (fun K hK => ?_)
          go_simp
          (have hb := (Below.refl wa.drew.heap.size wa.drew).alloc (Nat.le_refl _) (.cells #[.int .i64 0, .int .i64 0, .int .u64 0] (38 : Nat)))
          refine hK.out _ _ ?_ (fun hHeld2 hInv2 => ?_)
          · (try dsimp only)
            (first | assumption | (exact ⟨dA, (Below.refl _ _).drew⟩) | ((try go_split_ands); exact ⟨cellK (by assumption) hb, Below.trans (by assumption) (hb.mono (Below.size (by assumption)))⟩))
          clear hK K hHeld hInv
          have hHeld := hHeld2
          have hInv := hInv2
          clear hHeld2 hInv2
          try simp only [Act.put, List.setIfInBounds_toArray, List.set_cons_zero, List.set_cons_succ] at hInv ⊢
          refine lastS 21 rfl (by decide) (by kernel_rfl) (fun K hK => ?_)
          go_simp
          refine hK.out _ _ ?_
          clear hK K
          refine wpAnyS_done (by kernel_rfl) ?_ _
          clear hHeld hInv hb
          by_cases hz : bv % 3 = 0
          · have z4 : (bv : Int) % 3 = 0 := by omega
            obtain ⟨U, hU⟩ : ∃ U, U = 18446744073709551615 - V := ⟨_, rfl⟩
            have r7 : bits .xor .u64 IntKind.u64.max (V : Int) = (U : Int) := by rw [hU]; exact not_walk V hV2
            have r8 : Hid ((if IntKind.u64.signed = true then (-1 : Int) else IntKind.u64.max) = IntKind.u64.max) := Lib.hid rfl
            have hU2 : U < 18446744073709551616 := by omega
            replace hU := Lib.hid hU
            have hbA : Below wa.heap.size wa (wa.alloc (.cells #[.int .i64 1, .int .i64 (p : Int), .int .u64 (V : Nat)] (38 : Nat))).drew := ((Below.refl _ _).alloc (Nat.le_refl _) _).drew
            obtain ⟨b0, b1, b2⟩ := C3.new wa (.int .i64 1) (.int .i64 (p : Int)) (.int .u64 (V : Nat)) (38 : Nat)
            have dA2 := cellK dA hbA
            clear hbA
            have hbW : Below wa.heap.size wa (wa.alloc (.cells #[.int .i64 2, .int .i64 (p : Int), .int .u64 (U : Nat)] (38 : Nat))).drew := ((Below.refl _ _).alloc (Nat.le_refl _) _).drew
            have hkW : C3 (wa.alloc (.cells #[.int .i64 2, .int .i64 (p : Int), .int .u64 (U : Nat)] (38 : Nat))).drew wa.heap.size (.int .i64 2) (.int .i64 (p : Int)) (.int .u64 (U : Nat)) := C3.new _ _ _ _ _
            obtain ⟨c0, c1, c2⟩ := id hkW
            have hTW := hT.keep hbW
            have hBW := hBa.trans (hbW.mono hBa.size)
            obtain ⟨x1, w4, hr1, hT4, hB4, hC4⟩ := hTW.rot.push hBW.size 2 (p : Int) U (by have := hlen.out; omega)
            have e1 : (wa.alloc (.cells #[.int .i64 2, .int .i64 (p : Int), .int .u64 (U : Nat)] (38 : Nat))).drew.alloc (.cells #[.int .i64 2, .int .i64 (p : Int), .int .u64 (U : Nat)] (38 : Nat)) = ((wa.alloc (.cells #[.int .i64 2, .int .i64 (p : Int), .int .u64 (U : Nat)] (38 : Nat))).alloc (.cells #[.int .i64 2, .int .i64 (p : Int), .int .u64 (U : Nat)] (38 : Nat))).drew := rfl
            have e2 : (wa.alloc (.cells #[.int .i64 2, .int .i64 (p : Int), .int .u64 (U : Nat)] (38 : Nat))).drew.heap.size = wa.heap.size + 1 := by show (wa.alloc (.cells #[.int .i64 2, .int .i64 (p : Int), .int .u64 (U : Nat)] (38 : Nat))).heap.size = _; simp
            rw [e1, e2] at hr1
            clear e1 e2
            have hkX := hC4 _ _ _ _ hkW (hT.rot.fresh (Nat.le_refl _))
            have hBX := hBW.trans hB4
            obtain ⟨x3, w5, hr2, hT5, hB5, _⟩ := hT4.rot.push hBX.size 2 (p : Int) U (by have := hlen.out; omega)
            have hBY := hBX.trans hB5
            replace hT5 := hT5.rot
            have hinv2 := Lib.hid (hinv.out.addM (o := (2, (p : Int), U)) hU2 (fun i j h1 h2 => by rw [hU.out, hV.out]; exact one_and _ (by omega) h1 (by have := hq2; omega)))
            have hlen2 : Hid (La.length ≤ j + 1 ∧ (M ++ [(2, (p : Int), U)]).length ≤ j + 1 ∧ (Xa ++ [(2, (p : Int), U)]).length ≤ 2 * j + 2) := Lib.hid (by have := hlen.out; simp only [List.length_append, List.length_cons, List.length_nil]; omega)
            generalize M ++ [(2, (p : Int), U)] = Mb at *
            generalize Xa ++ [(2, (p : Int), U)] = Xb at *
            obtain ⟨d0, d1, d2⟩ := id hkX
            clear hbW hTW hT4 hC4 hkW hkX hBW hBX hB4 hB5 hinv hlen hT hBa
            go_wp2_with (at_builtin; (try simp only [r8.out, r7]); first | (refine wpList_append_run rfl _ _ 22 rfl _ _ _ rfl rfl hr1 ?_) | (refine wpList_append_run rfl _ _ 22 rfl _ _ _ rfl rfl hr2 ?_))
            have hlenF : Hid (La.length ≤ j + 1 ∧ Mb.length ≤ j + 1 ∧ Xb.length ≤ 2 * (j + 1)) := Lib.hid (by have := hlen2.out; omega)
            clear hlen2
            go_roundw
            case rel => exact ⟨j + 1, _, _, _, by omega, by go_num, hinv2, hlenF, hT5, hBY⟩
            case measure => simp [intOf]; omega
          · have z4 : ¬ ((bv : Int) % 3 = 0) := by omega
            have hbW : Below wa.heap.size wa (wa.alloc (.cells #[.int .i64 1, .int .i64 (p : Int), .int .u64 (V : Nat)] (38 : Nat))).drew := ((Below.refl _ _).alloc (Nat.le_refl _) _).drew
            have hkW : C3 (wa.alloc (.cells #[.int .i64 1, .int .i64 (p : Int), .int .u64 (V : Nat)] (38 : Nat))).drew wa.heap.size (.int .i64 1) (.int .i64 (p : Int)) (.int .u64 (V : Nat)) := C3.new _ _ _ _ _
            have dA2 := cellK dA hbW
            obtain ⟨c0, c1, c2⟩ := id hkW
            have hTW := hT.keep hbW
            have hBW := hBa.trans (hbW.mono hBa.size)
            obtain ⟨x1, w4, hr1, hT4, hB4, hC4⟩ := hTW.rot.push hBW.size 1 (p : Int) V (by have := hlen.out; omega)
            have e1 : (wa.alloc (.cells #[.int .i64 1, .int .i64 (p : Int), .int .u64 (V : Nat)] (38 : Nat))).drew.alloc (.cells #[.int .i64 1, .int .i64 (p : Int), .int .u64 (V : Nat)] (38 : Nat)) = ((wa.alloc (.cells #[.int .i64 1, .int .i64 (p : Int), .int .u64 (V : Nat)] (38 : Nat))).alloc (.cells #[.int .i64 1, .int .i64 (p : Int), .int .u64 (V : Nat)] (38 : Nat))).drew := rfl
            have e2 : (wa.alloc (.cells #[.int .i64 1, .int .i64 (p : Int), .int .u64 (V : Nat)] (38 : Nat))).drew.heap.size = wa.heap.size + 1 := by show (wa.alloc (.cells #[.int .i64 1, .int .i64 (p : Int), .int .u64 (V : Nat)] (38 : Nat))).heap.size = _; simp
            rw [e1, e2] at hr1
            clear e1 e2
            have hkX := hC4 _ _ _ _ hkW (hT.rot.fresh (Nat.le_refl _))
            have hBX := hBW.trans hB4
            obtain ⟨x3, w5, hr2, hT5, hB5, _⟩ := hT4.rot.push hBX.size 1 (p : Int) V (by have := hlen.out; omega)
            have hBY := hBX.trans hB5
            replace hT5 := hT5.rot
            have hinv2 := Lib.hid (hinv.out.addM (o := (1, (p : Int), V)) hV2 (fun i j h1 h2 => by rw [hV.out]; exact one_or _ (by have := hq2; omega)))
            have hlen2 : Hid (La.length ≤ j + 1 ∧ (M ++ [(1, (p : Int), V)]).length ≤ j + 1 ∧ (Xa ++ [(1, (p : Int), V)]).length ≤ 2 * j + 2) := Lib.hid (by have := hlen.out; simp only [List.length_append, List.length_cons, List.length_nil]; omega)
            generalize M ++ [(1, (p : Int), V)] = Mb at *
            generalize Xa ++ [(1, (p : Int), V)] = Xb at *
            obtain ⟨d0, d1, d2⟩ := id hkX
            clear hbW hTW hT4 hC4 hkW hkX hBW hBX hB4 hB5 hinv hlen hT hBa
            go_wp2_with (at_builtin; first | (refine wpList_append_run rfl _ _ 22 rfl _ _ _ rfl rfl hr1 ?_) | (refine wpList_append_run rfl _ _ 22 rfl _ _ _ rfl rfl hr2 ?_))
            have hlenF : Hid (La.length ≤ j + 1 ∧ Mb.length ≤ j + 1 ∧ Xb.length ≤ 2 * (j + 1)) := Lib.hid (by have := hlen2.out; omega)
            clear hlen2
            go_roundw
            case rel => exact ⟨j + 1, _, _, _, by omega, by go_num, hinv2, hlenF, hT5, hBY⟩
            case measure => simp [intOf]; omega
      · have hjb' : ¬ ((j : Int) < (NB : Int)) := by omega
        obtain ⟨g2, o2, hA2, _, _, dA⟩ := hC2.out wr j hB hja
        obtain rfl := hA2
        have hx1 := hAa.out j hja
        generalize a.getD j 0 = av at *
        obtain ⟨p, hp⟩ : ∃ p, p = av % n := ⟨_, rfl⟩
        obtain ⟨q, hq⟩ : ∃ q, q = av % k := ⟨_, rfl⟩
        have hq2 : q < k := by rw [hq]; exact Nat.mod_lt _ (by omega)
        have r2 : (av : Int) % (k : Int) = (q : Int) := by rw [hq, Int.natCast_emod]
        have r2' : (av : Int).tmod (k : Int) = (q : Int) := by rw [Int.tmod_eq_emod_of_nonneg (by omega)]; exact r2
        have z2 : ¬ (k = 0) := by omega
        have r0 : IntKind.i64.wrap ((av : Nat) : Int) = (av : Int) := by rw [IntKind.wrap_i64]; omega
        have r1 : (av : Int) % (n : Int) = (p : Int) := by rw [hp, Int.natCast_emod]
        have r1' : (av : Int).tmod (n : Int) = (p : Int) := by rw [Int.tmod_eq_emod_of_nonneg (by omega)]; exact r1
        have z1 : ¬ (n = 0) := by omega
        have z3 : (q : Int) < 64 := by omega
        obtain ⟨V, hV⟩ : ∃ V, V = 2 ^ q := ⟨_, rfl⟩
        have hV2 : V < 18446744073709551616 := by rw [hV]; exact Nat.pow_lt_pow_right (n := 64) (by decide : 1 < 2) (by omega)
        have r3 : IntKind.u64.wrap (2 ^ q) = (V : Int) := by rw [hV]; exact wrap_pow q (by omega)
        replace hp := Lib.hid hp
        replace hq := Lib.hid hq
        replace hV := Lib.hid hV
        go_wp2_with fail
        refine wp_region_tail (S := (fun w' => w'.cell? ⟨g2, o2 + j, none⟩ = some (.int .u8 (av : Nat)) ∧ Below wr.heap.size wr w')) (n := 18) (by kernel_rfl) ?_ (fun hHeld hInv => ?_) (by decide)
        · (try dsimp only)
          (first | assumption | (exact ⟨dA, (Below.refl _ _).drew⟩) | ((try go_split_ands); exact ⟨cellK (by assumption) hb, Below.trans (by assumption) (hb.mono (Below.size (by assumption)))⟩))
        refine takeS 0 (v := ?_) (tailAt (by kernel_rfl)) hInv (by decide) rfl (by kernel_rfl) (by kernel_rfl) (by kernel_rfl) (fun _ _ _ h => h) (by rfl) (by assumption) ?_ (fun hInv2 => ?_)
        rotate_left
        · (intro w hSw; (try dsimp only at hSw); (try go_split_ands); go_simp <;> with_reducible rfl)
        clear hInv
        have hInv := hInv2
        clear hInv2
        try simp only [Act.put, List.setIfInBounds_toArray, List.set_cons_zero, List.set_cons_succ] at hInv ⊢
        refine takeS 1 (v := ?_) (tailAt (by kernel_rfl)) hInv (by decide) rfl (by kernel_rfl) (by kernel_rfl) (by kernel_rfl) (fun _ _ _ h => h) (by rfl) (by assumption) ?_ (fun hInv2 => ?_)
        rotate_left
        · (intro w hSw; (try dsimp only at hSw); (try go_split_ands); go_simp <;> with_reducible rfl)
        clear hInv
        have hInv := hInv2
        clear hInv2
        try simp only [Act.put, List.setIfInBounds_toArray, List.set_cons_zero, List.set_cons_succ] at hInv ⊢
        refine takeS 2 (v := ?_) (tailAt (by kernel_rfl)) hInv (by decide) rfl (by kernel_rfl) (by kernel_rfl) (by kernel_rfl) (fun _ _ _ h => h) (by rfl) (by assumption) ?_ (fun hInv2 => ?_)
        rotate_left
        · (intro w hSw; (try dsimp only at hSw); (try go_split_ands); go_simp <;> with_reducible rfl)
        clear hInv
        have hInv := hInv2
        clear hInv2
        try simp only [Act.put, List.setIfInBounds_toArray, List.set_cons_zero, List.set_cons_succ] at hInv ⊢
        refine takeS 3 (v := ?_) (tailAt (by kernel_rfl)) hInv (by decide) rfl (by kernel_rfl) (by kernel_rfl) (by kernel_rfl) (fun _ _ _ h => h) (by rfl) (by assumption) ?_ (fun hInv2 => ?_)
        rotate_left
        · (intro w hSw; (try dsimp only at hSw); (try go_split_ands); go_simp <;> with_reducible rfl)
        clear hInv
        have hInv := hInv2
        clear hInv2
        try simp only [Act.put, List.setIfInBounds_toArray, List.set_cons_zero, List.set_cons_succ] at hInv ⊢
        refine takeS 4 (v := ?_) (tailAt (by kernel_rfl)) hInv (by decide) rfl (by kernel_rfl) (by kernel_rfl) (by kernel_rfl) (fun _ _ _ h => h) (by rfl) (by assumption) ?_ (fun hInv2 => ?_)
        rotate_left
        · (intro w hSw; (try dsimp only at hSw); (try go_split_ands); go_simp <;> with_reducible rfl)
        clear hInv
        have hInv := hInv2
        clear hInv2
        try simp only [Act.put, List.setIfInBounds_toArray, List.set_cons_zero, List.set_cons_succ] at hInv ⊢
        refine takeS 5 (v := ?_) (tailAt (by kernel_rfl)) hInv (by decide) rfl (by kernel_rfl) (by kernel_rfl) (by kernel_rfl) (fun _ _ _ h => h) (by rfl) (by assumption) ?_ (fun hInv2 => ?_)
        rotate_left
        · (intro w hSw; (try dsimp only at hSw); (try go_split_ands); go_simp <;> with_reducible rfl)
        clear hInv
        have hInv := hInv2
        clear hInv2
        try simp only [Act.put, List.setIfInBounds_toArray, List.set_cons_zero, List.set_cons_succ] at hInv ⊢
        refine takeS 6 (v := ?_) (tailAt (by kernel_rfl)) hInv (by decide) rfl (by kernel_rfl) (by kernel_rfl) (by kernel_rfl) (fun _ _ _ h => h) (by rfl) (by assumption) ?_ (fun hInv2 => ?_)
        rotate_left
        · (intro w hSw; (try dsimp only at hSw); (try go_split_ands); go_simp <;> with_reducible rfl)
        clear hInv
        have hInv := hInv2
        clear hInv2
        try simp only [Act.put, List.setIfInBounds_toArray, List.set_cons_zero, List.set_cons_succ] at hInv ⊢
        refine takeS 7 (v := ?_) (tailAt (by kernel_rfl)) hInv (by decide) rfl (by kernel_rfl) (by kernel_rfl) (by kernel_rfl) (fun _ _ _ h => h) (by rfl) (by assumption) ?_ (fun hInv2 => ?_)
        rotate_left
        · (intro w hSw; (try dsimp only at hSw); (try go_split_ands); go_simp <;> with_reducible rfl)
        clear hInv
        have hInv := hInv2
        clear hInv2
        try simp only [Act.put, List.setIfInBounds_toArray, List.set_cons_zero, List.set_cons_succ] at hInv ⊢
        refine takeS 8 (v := ?_) (tailAt (by kernel_rfl)) hInv (by decide) rfl (by kernel_rfl) (by kernel_rfl) (by kernel_rfl) (fun _ _ _ h => h) (by rfl) (by assumption) ?_ (fun hInv2 => ?_)
        rotate_left
        · (intro w hSw; (try dsimp only at hSw); (try go_split_ands); go_simp <;> with_reducible rfl)
        clear hInv
        have hInv := hInv2
        clear hInv2
        try simp only [Act.put, List.setIfInBounds_toArray, List.set_cons_zero, List.set_cons_succ] at hInv ⊢
        refine takeS 9 (v := ?_) (tailAt (by kernel_rfl)) hInv (by decide) rfl (by kernel_rfl) (by kernel_rfl) (by kernel_rfl) (fun _ _ _ h => h) (by rfl) (by assumption) ?_ (fun hInv2 => ?_)
        rotate_left
        · (intro w hSw; (try dsimp only at hSw); (try go_split_ands); go_simp <;> with_reducible rfl)
        clear hInv
        have hInv := hInv2
        clear hInv2
        try simp only [Act.put, List.setIfInBounds_toArray, List.set_cons_zero, List.set_cons_succ] at hInv ⊢
        refine takeS 10 (v := ?_) (tailAt (by kernel_rfl)) hInv (by decide) rfl (by kernel_rfl) (by kernel_rfl) (by kernel_rfl) (fun _ _ _ h => h) (by rfl) (by assumption) ?_ (fun hInv2 => ?_)
        rotate_left
        · (intro w hSw; (try dsimp only at hSw); (try go_split_ands); go_simp <;> with_reducible rfl)
        clear hInv
        have hInv := hInv2
        clear hInv2
        try simp only [Act.put, List.setIfInBounds_toArray, List.set_cons_zero, List.set_cons_succ] at hInv ⊢
        refine takeS 11 (v := ?_) (tailAt (by kernel_rfl)) hInv (by decide) rfl (by kernel_rfl) (by kernel_rfl) (by kernel_rfl) (fun _ _ _ h => h) (by rfl) (by assumption) ?_ (fun hInv2 => ?_)
        rotate_left
        · (intro w hSw; (try dsimp only at hSw); (try go_split_ands); go_simp <;> with_reducible rfl)
        clear hInv
        have hInv := hInv2
        clear hInv2
        try simp only [Act.put, List.setIfInBounds_toArray, List.set_cons_zero, List.set_cons_succ] at hInv ⊢
        refine takeS 12 (v := ?_) (tailAt (by kernel_rfl)) hInv (by decide) rfl (by kernel_rfl) (by kernel_rfl) (by kernel_rfl) (fun _ _ _ h => h) (by rfl) (by assumption) ?_ (fun hInv2 => ?_)
        rotate_left
        · (intro w hSw; (try dsimp only at hSw); (try go_split_ands); go_simp <;> with_reducible rfl)
        clear hInv
        have hInv := hInv2
        clear hInv2
        try simp only [Act.put, List.setIfInBounds_toArray, List.set_cons_zero, List.set_cons_succ] at hInv ⊢
        refine takeS 13 (v := ?_) (tailAt (by kernel_rfl)) hInv (by decide) rfl (by kernel_rfl) (by kernel_rfl) (by kernel_rfl) (fun _ _ _ h => h) (by rfl) (by assumption) ?_ (fun hInv2 => ?_)
        rotate_left
        · (intro w hSw; (try dsimp only at hSw); (try go_split_ands); go_simp <;> with_reducible rfl)
        clear hInv
        have hInv := hInv2
        clear hInv2
        try simp only [Act.put, List.setIfInBounds_toArray, List.set_cons_zero, List.set_cons_succ] at hInv ⊢
        refine takeS 14 (v := ?_) (tailAt (by kernel_rfl)) hInv (by decide) rfl (by kernel_rfl) (by kernel_rfl) (by kernel_rfl) (fun _ _ _ h => h) (by rfl) (by assumption) ?_ (fun hInv2 => ?_)
        rotate_left
        · (intro w hSw; (try dsimp only at hSw); (try go_split_ands); go_simp <;> with_reducible rfl)
        clear hInv
        have hInv := hInv2
        clear hInv2
        try simp only [Act.put, List.setIfInBounds_toArray, List.set_cons_zero, List.set_cons_succ] at hInv ⊢
        refine takeS 15 (v := ?_) (tailAt (by kernel_rfl)) hInv (by decide) rfl (by kernel_rfl) (by kernel_rfl) (by kernel_rfl) (fun _ _ _ h => h) (by rfl) (by assumption) ?_ (fun hInv2 => ?_)
        rotate_left
        · (intro w hSw; (try dsimp only at hSw); (try go_split_ands); go_simp <;> with_reducible rfl)
        clear hInv
        have hInv := hInv2
        clear hInv2
        try simp only [Act.put, List.setIfInBounds_toArray, List.set_cons_zero, List.set_cons_succ] at hInv ⊢
        refine takeS 16 (v := ?_) (tailAt (by kernel_rfl)) hInv (by decide) rfl (by kernel_rfl) (by kernel_rfl) (by kernel_rfl) (fun _ _ _ h => h) (by rfl) (by assumption) ?_ (fun hInv2 => ?_)
        rotate_left
        · (intro w hSw; (try dsimp only at hSw); (try go_split_ands); go_simp <;> with_reducible rfl)
        clear hInv
        have hInv := hInv2
        clear hInv2
        try simp only [Act.put, List.setIfInBounds_toArray, List.set_cons_zero, List.set_cons_succ] at hInv ⊢
        refine oneS 17 hInv (by decide) rfl (by kernel_rfl) (fun K hK => ?_)
        go_simp
        (have hb := (Below.refl wr.drew.heap.size wr.drew).alloc (Nat.le_refl _) (.cells #[.int .i64 0, .int .i64 0, .int .u64 0] (38 : Nat)))
        refine hK.out _ _ ?_ (fun hHeld2 hInv2 => ?_)
        · (try dsimp only)
          (first | assumption | (exact ⟨dA, (Below.refl _ _).drew⟩) | ((try go_split_ands); exact ⟨cellK (by assumption) hb, Below.trans (by assumption) (hb.mono (Below.size (by assumption)))⟩))
        clear hK K hHeld hInv
        have hHeld := hHeld2
        have hInv := hInv2
        clear hHeld2 hInv2
        try simp only [Act.put, List.setIfInBounds_toArray, List.set_cons_zero, List.set_cons_succ] at hInv ⊢
        refine lastS 18 rfl (by decide) (by kernel_rfl) (fun K hK => ?_)
        go_simp
        refine hK.out _ _ ?_
        clear hK K
        refine wpAnyS_done (by kernel_rfl) ?_ _
        clear hHeld hInv hb
        by_cases hz : av % 3 = 0
        · have z4 : (av : Int) % 3 = 0 := by omega
          obtain ⟨U, hU⟩ : ∃ U, U = 18446744073709551615 - V := ⟨_, rfl⟩
          have r7 : bits .xor .u64 IntKind.u64.max (V : Int) = (U : Int) := by rw [hU]; exact not_walk V hV2
          have r8 : Hid ((if IntKind.u64.signed = true then (-1 : Int) else IntKind.u64.max) = IntKind.u64.max) := Lib.hid rfl
          have hU2 : U < 18446744073709551616 := by omega
          replace hU := Lib.hid hU
          have hbA : Below wr.heap.size wr (wr.alloc (.cells #[.int .i64 1, .int .i64 (p : Int), .int .u64 (V : Nat)] (38 : Nat))).drew := ((Below.refl _ _).alloc (Nat.le_refl _) _).drew
          obtain ⟨b0, b1, b2⟩ := C3.new wr (.int .i64 1) (.int .i64 (p : Int)) (.int .u64 (V : Nat)) (38 : Nat)
          have dA2 := cellK dA hbA
          clear hbA
          have hbW : Below wr.heap.size wr (wr.alloc (.cells #[.int .i64 2, .int .i64 (p : Int), .int .u64 (U : Nat)] (38 : Nat))).drew := ((Below.refl _ _).alloc (Nat.le_refl _) _).drew
          have hkW : C3 (wr.alloc (.cells #[.int .i64 2, .int .i64 (p : Int), .int .u64 (U : Nat)] (38 : Nat))).drew wr.heap.size (.int .i64 2) (.int .i64 (p : Int)) (.int .u64 (U : Nat)) := C3.new _ _ _ _ _
          obtain ⟨c0, c1, c2⟩ := id hkW
          have hTW := hT.keep hbW
          have hBW := hB.trans (hbW.mono hB.size)
          obtain ⟨x1, w4, hr1, hT4, hB4, hC4⟩ := hTW.push hBW.size 2 (p : Int) U (by have := hlen.out; omega)
          have e1 : (wr.alloc (.cells #[.int .i64 2, .int .i64 (p : Int), .int .u64 (U : Nat)] (38 : Nat))).drew.alloc (.cells #[.int .i64 2, .int .i64 (p : Int), .int .u64 (U : Nat)] (38 : Nat)) = ((wr.alloc (.cells #[.int .i64 2, .int .i64 (p : Int), .int .u64 (U : Nat)] (38 : Nat))).alloc (.cells #[.int .i64 2, .int .i64 (p : Int), .int .u64 (U : Nat)] (38 : Nat))).drew := rfl
          have e2 : (wr.alloc (.cells #[.int .i64 2, .int .i64 (p : Int), .int .u64 (U : Nat)] (38 : Nat))).drew.heap.size = wr.heap.size + 1 := by show (wr.alloc (.cells #[.int .i64 2, .int .i64 (p : Int), .int .u64 (U : Nat)] (38 : Nat))).heap.size = _; simp
          rw [e1, e2] at hr1
          clear e1 e2
          have hkX := hC4 _ _ _ _ hkW (hT.fresh (Nat.le_refl _))
          have hBX := hBW.trans hB4
          obtain ⟨x3, w5, hr2, hT5, hB5, _⟩ := hT4.rot.rot.push hBX.size 2 (p : Int) U (by have := hlen.out; omega)
          have hBY := hBX.trans hB5
          replace hT5 := hT5.rot
          have hinv2 := Lib.hid (hinv.out.addL (o := (2, (p : Int), U)) hU2 (fun i j h1 h2 => by rw [hU.out, hV.out]; exact one_and _ (by omega) h1 (by have := hq2; omega)))
          have hlen2 : Hid ((L ++ [(2, (p : Int), U)]).length ≤ j + 1 ∧ M.length ≤ j ∧ (X ++ [(2, (p : Int), U)]).length ≤ 2 * j + 1) := Lib.hid (by have := hlen.out; simp only [List.length_append, List.length_cons, List.length_nil]; omega)
          generalize L ++ [(2, (p : Int), U)] = La at *
          generalize X ++ [(2, (p : Int), U)] = Xa at *
          obtain ⟨d0, d1, d2⟩ := id hkX
          clear hbW hTW hT4 hC4 hkW hkX hBW hBX hB4 hB5 hinv hlen hT hB
          go_wp2_with (at_builtin; (try simp only [r8.out, r7]); first | (refine wpList_append_run rfl _ _ 22 rfl _ _ _ rfl rfl hr1 ?_) | (refine wpList_append_run rfl _ _ 22 rfl _ _ _ rfl rfl hr2 ?_))
          have hlenF : Hid (La.length ≤ j + 1 ∧ M.length ≤ j + 1 ∧ Xa.length ≤ 2 * (j + 1)) := Lib.hid (by have := hlen2.out; omega)
          clear hlen2
          go_roundw
          case rel => exact ⟨j + 1, _, _, _, by omega, by go_num, hinv2, hlenF, hT5, hBY⟩
          case measure => simp [intOf]; omega
        · have z4 : ¬ ((av : Int) % 3 = 0) := by omega
          have hbW : Below wr.heap.size wr (wr.alloc (.cells #[.int .i64 1, .int .i64 (p : Int), .int .u64 (V : Nat)] (38 : Nat))).drew := ((Below.refl _ _).alloc (Nat.le_refl _) _).drew
          have hkW : C3 (wr.alloc (.cells #[.int .i64 1, .int .i64 (p : Int), .int .u64 (V : Nat)] (38 : Nat))).drew wr.heap.size (.int .i64 1) (.int .i64 (p : Int)) (.int .u64 (V : Nat)) := C3.new _ _ _ _ _
          have dA2 := cellK dA hbW
          obtain ⟨c0, c1, c2⟩ := id hkW
          have hTW := hT.keep hbW
          have hBW := hB.trans (hbW.mono hB.size)
          obtain ⟨x1, w4, hr1, hT4, hB4, hC4⟩ := hTW.push hBW.size 1 (p : Int) V (by have := hlen.out; omega)
          have e1 : (wr.alloc (.cells #[.int .i64 1, .int .i64 (p : Int), .int .u64 (V : Nat)] (38 : Nat))).drew.alloc (.cells #[.int .i64 1, .int .i64 (p : Int), .int .u64 (V : Nat)] (38 : Nat)) = ((wr.alloc (.cells #[.int .i64 1, .int .i64 (p : Int), .int .u64 (V : Nat)] (38 : Nat))).alloc (.cells #[.int .i64 1, .int .i64 (p : Int), .int .u64 (V : Nat)] (38 : Nat))).drew := rfl
          have e2 : (wr.alloc (.cells #[.int .i64 1, .int .i64 (p : Int), .int .u64 (V : Nat)] (38 : Nat))).drew.heap.size = wr.heap.size + 1 := by show (wr.alloc (.cells #[.int .i64 1, .int .i64 (p : Int), .int .u64 (V : Nat)] (38 : Nat))).heap.size = _; simp
          rw [e1, e2] at hr1
          clear e1 e2
          have hkX := hC4 _ _ _ _ hkW (hT.fresh (Nat.le_refl _))
          have hBX := hBW.trans hB4
          obtain ⟨x3, w5, hr2, hT5, hB5, _⟩ := hT4.rot.rot.push hBX.size 1 (p : Int) V (by have := hlen.out; omega)
          have hBY := hBX.trans hB5
          replace hT5 := hT5.rot
          have hinv2 := Lib.hid (hinv.out.addL (o := (1, (p : Int), V)) hV2 (fun i j h1 h2 => by rw [hV.out]; exact one_or _ (by have := hq2; omega)))
          have hlen2 : Hid ((L ++ [(1, (p : Int), V)]).length ≤ j + 1 ∧ M.length ≤ j ∧ (X ++ [(1, (p : Int), V)]).length ≤ 2 * j + 1) := Lib.hid (by have := hlen.out; simp only [List.length_append, List.length_cons, List.length_nil]; omega)
          generalize L ++ [(1, (p : Int), V)] = La at *
          generalize X ++ [(1, (p : Int), V)] = Xa at *
          obtain ⟨d0, d1, d2⟩ := id hkX
          clear hbW hTW hT4 hC4 hkW hkX hBW hBX hB4 hB5 hinv hlen hT hB
          go_wp2_with (at_builtin; first | (refine wpList_append_run rfl _ _ 22 rfl _ _ _ rfl rfl hr1 ?_) | (refine wpList_append_run rfl _ _ 22 rfl _ _ _ rfl rfl hr2 ?_))
          have hlenF : Hid (La.length ≤ j + 1 ∧ M.length ≤ j + 1 ∧ Xa.length ≤ 2 * (j + 1)) := Lib.hid (by have := hlen2.out; omega)
          clear hlen2
          go_roundw
          case rel => exact ⟨j + 1, _, _, _, by omega, by go_num, hinv2, hlenF, hT5, hBY⟩
          case measure => simp [intOf]; omega
    · have hja' : ¬ ((j : Int) < (NA : Int)) := by omega
      by_cases hjb : j < NB
      · have hjb' : (j : Int) < (NB : Int) := by omega
        obtain ⟨g2, o2, hA2, _, _, dA⟩ := hC3.out wr j hB hjb
        obtain rfl := hA2
        have hx1 := hAb.out j hjb
        generalize b.getD j 0 = bv at *
        obtain ⟨p, hp⟩ : ∃ p, p = bv % n := ⟨_, rfl⟩
        obtain ⟨kk, hkk⟩ : ∃ kk, kk = 64 - k := ⟨_, rfl⟩
        obtain ⟨rr, hrr⟩ : ∃ rr, rr = bv % kk := ⟨_, rfl⟩
        have hr2 : rr < kk := by rw [hrr]; exact Nat.mod_lt _ (by omega)
        obtain ⟨q, hq⟩ : ∃ q, q = k + rr := ⟨_, rfl⟩
        have hq2 : k ≤ q ∧ q < 64 := by omega
        have r2 : (bv : Int) % (kk : Int) = (rr : Int) := by rw [hrr, Int.natCast_emod]
        have r2' : (bv : Int).tmod (kk : Int) = (rr : Int) := by rw [Int.tmod_eq_emod_of_nonneg (by omega)]; exact r2
        have r5 : IntKind.i64.wrap (64 - (k : Int)) = (kk : Int) := by rw [IntKind.wrap_i64]; omega
        have r6 : IntKind.i64.wrap ((k : Int) + (rr : Int)) = (q : Int) := by rw [IntKind.wrap_i64]; omega
        have z2 : ¬ (kk = 0) := by omega
        replace hrr := Lib.hid hrr
        replace hkk := Lib.hid hkk
        have r0 : IntKind.i64.wrap ((bv : Nat) : Int) = (bv : Int) := by rw [IntKind.wrap_i64]; omega
        have r1 : (bv : Int) % (n : Int) = (p : Int) := by rw [hp, Int.natCast_emod]
        have r1' : (bv : Int).tmod (n : Int) = (p : Int) := by rw [Int.tmod_eq_emod_of_nonneg (by omega)]; exact r1
        have z1 : ¬ (n = 0) := by omega
        have z3 : (q : Int) < 64 := by omega
        obtain ⟨V, hV⟩ : ∃ V, V = 2 ^ q := ⟨_, rfl⟩
        have hV2 : V < 18446744073709551616 := by rw [hV]; exact Nat.pow_lt_pow_right (n := 64) (by decide : 1 < 2) (by omega)
        have r3 : IntKind.u64.wrap (2 ^ q) = (V : Int) := by rw [hV]; exact wrap_pow q (by omega)
        replace hp := Lib.hid hp
        replace hq := Lib.hid hq
        replace hV := Lib.hid hV
        go_wp2_with fail
        refine wp_region_tail (S := (fun w' => w'.cell? ⟨g2, o2 + j, none⟩ = some (.int .u8 (bv : Nat)) ∧ Below wr.heap.size wr w')) (n := 21) (by kernel_rfl) ?_ (fun hHeld hInv => ?_) (by decide)
        · (try dsimp only)
          (first | assumption | (exact ⟨dA, (Below.refl _ _).drew⟩) | ((try go_split_ands); exact ⟨cellK (by assumption) hb, Below.trans (by assumption) (hb.mono (Below.size (by assumption)))⟩))
        refine takeS 0 (v := ?_) (tailAt (by kernel_rfl)) hInv (by decide) rfl (by kernel_rfl) (by kernel_rfl) (by kernel_rfl) (fun _ _ _ h => h) (by rfl) (by assumption) ?_ (fun hInv2 => ?_)
        rotate_left
        · (intro w hSw; (try dsimp only at hSw); (try go_split_ands); go_simp <;> with_reducible rfl)
        clear hInv
        have hInv := hInv2
        clear hInv2
        try simp only [Act.put, List.setIfInBounds_toArray, List.set_cons_zero, List.set_cons_succ] at hInv ⊢
        refine takeS 1 (v := ?_) (tailAt (by kernel_rfl)) hInv (by decide) rfl (by kernel_rfl) (by kernel_rfl) (by kernel_rfl) (fun _ _ _ h => h) (by rfl) (by assumption) ?_ (fun hInv2 => ?_)
        rotate_left
        · (intro w hSw; (try dsimp only at hSw); (try go_split_ands); go_simp <;> with_reducible rfl)
        clear hInv
        have hInv := hInv2
        clear hInv2
        try simp only [Act.put, List.setIfInBounds_toArray, List.set_cons_zero, List.set_cons_succ] at hInv ⊢
        refine takeS 2 (v := ?_) (tailAt (by kernel_rfl)) hInv (by decide) rfl (by kernel_rfl) (by kernel_rfl) (by kernel_rfl) (fun _ _ _ h => h) (by rfl) (by assumption) ?_ (fun hInv2 => ?_)
        rotate_left
        · (intro w hSw; (try dsimp only at hSw); (try go_split_ands); go_simp <;> with_reducible rfl)
        clear hInv
        have hInv := hInv2
        clear hInv2
        try simp only [Act.put, List.setIfInBounds_toArray, List.set_cons_zero, List.set_cons_succ] at hInv ⊢
        refine takeS 3 (v := ?_) (tailAt (by kernel_rfl)) hInv (by decide) rfl (by kernel_rfl) (by kernel_rfl) (by kernel_rfl) (fun _ _ _ h => h) (by rfl) (by assumption) ?_ (fun hInv2 => ?_)
        rotate_left
        · (intro w hSw; (try dsimp only at hSw); (try go_split_ands); go_simp <;> with_reducible rfl)
        clear hInv
        have hInv := hInv2
        clear hInv2
        try simp only [Act.put, List.setIfInBounds_toArray, List.set_cons_zero, List.set_cons_succ] at hInv ⊢
        refine takeS 4 (v := ?_) (tailAt (by kernel_rfl)) hInv (by decide) rfl (by kernel_rfl) (by kernel_rfl) (by kernel_rfl) (fun _ _ _ h => h) (by rfl) (by assumption) ?_ (fun hInv2 => ?_)
        rotate_left
        · (intro w hSw; (try dsimp only at hSw); (try go_split_ands); go_simp <;> with_reducible rfl)
        clear hInv
        have hInv := hInv2
        clear hInv2
        try simp only [Act.put, List.setIfInBounds_toArray, List.set_cons_zero, List.set_cons_succ] at hInv ⊢
        refine takeS 5 (v := ?_) (tailAt (by kernel_rfl)) hInv (by decide) rfl (by kernel_rfl) (by kernel_rfl) (by kernel_rfl) (fun _ _ _ h => h) (by rfl) (by assumption) ?_ (fun hInv2 => ?_)
        rotate_left
        · (intro w hSw; (try dsimp only at hSw); (try go_split_ands); go_simp <;> with_reducible rfl)
        clear hInv
        have hInv := hInv2
        clear hInv2
        try simp only [Act.put, List.setIfInBounds_toArray, List.set_cons_zero, List.set_cons_succ] at hInv ⊢
        refine takeS 6 (v := ?_) (tailAt (by kernel_rfl)) hInv (by decide) rfl (by kernel_rfl) (by kernel_rfl) (by kernel_rfl) (fun _ _ _ h => h) (by rfl) (by assumption) ?_ (fun hInv2 => ?_)
        rotate_left
        · (intro w hSw; (try dsimp only at hSw); (try go_split_ands); go_simp <;> with_reducible rfl)
        clear hInv
        have hInv := hInv2
        clear hInv2
        try simp only [Act.put, List.setIfInBounds_toArray, List.set_cons_zero, List.set_cons_succ] at hInv ⊢
        refine takeS 7 (v := ?_) (tailAt (by kernel_rfl)) hInv (by decide) rfl (by kernel_rfl) (by kernel_rfl) (by kernel_rfl) (fun _ _ _ h => h) (by rfl) (by assumption) ?_ (fun hInv2 => ?_)
        rotate_left
        · (intro w hSw; (try dsimp only at hSw); (try go_split_ands); go_simp <;> with_reducible rfl)
        clear hInv
        have hInv := hInv2
        clear hInv2
        try simp only [Act.put, List.setIfInBounds_toArray, List.set_cons_zero, List.set_cons_succ] at hInv ⊢
        refine takeS 8 (v := ?_) (tailAt (by kernel_rfl)) hInv (by decide) rfl (by kernel_rfl) (by kernel_rfl) (by kernel_rfl) (fun _ _ _ h => h) (by rfl) (by assumption) ?_ (fun hInv2 => ?_)
        rotate_left
        · (intro w hSw; (try dsimp only at hSw); (try go_split_ands); go_simp <;> with_reducible rfl)
        clear hInv
        have hInv := hInv2
        clear hInv2
        try simp only [Act.put, List.setIfInBounds_toArray, List.set_cons_zero, List.set_cons_succ] at hInv ⊢
        refine takeS 9 (v := ?_) (tailAt (by kernel_rfl)) hInv (by decide) rfl (by kernel_rfl) (by kernel_rfl) (by kernel_rfl) (fun _ _ _ h => h) (by rfl) (by assumption) ?_ (fun hInv2 => ?_)
        rotate_left
        · (intro w hSw; (try dsimp only at hSw); (try go_split_ands); go_simp <;> with_reducible rfl)
        clear hInv
        have hInv := hInv2
        clear hInv2
        try simp only [Act.put, List.setIfInBounds_toArray, List.set_cons_zero, List.set_cons_succ] at hInv ⊢
        refine takeS 10 (v := ?_) (tailAt (by kernel_rfl)) hInv (by decide) rfl (by kernel_rfl) (by kernel_rfl) (by kernel_rfl) (fun _ _ _ h => h) (by rfl) (by assumption) ?_ (fun hInv2 => ?_)
        rotate_left
        · (intro w hSw; (try dsimp only at hSw); (try go_split_ands); go_simp <;> with_reducible rfl)
        clear hInv
        have hInv := hInv2
        clear hInv2
        try simp only [Act.put, List.setIfInBounds_toArray, List.set_cons_zero, List.set_cons_succ] at hInv ⊢
        refine takeS 11 (v := ?_) (tailAt (by kernel_rfl)) hInv (by decide) rfl (by kernel_rfl) (by kernel_rfl) (by kernel_rfl) (fun _ _ _ h => h) (by rfl) (by assumption) ?_ (fun hInv2 => ?_)
        rotate_left
        · (intro w hSw; (try dsimp only at hSw); (try go_split_ands); go_simp <;> with_reducible rfl)
        clear hInv
        have hInv := hInv2
        clear hInv2
        try simp only [Act.put, List.setIfInBounds_toArray, List.set_cons_zero, List.set_cons_succ] at hInv ⊢
        refine takeS 12 (v := ?_) (tailAt (by kernel_rfl)) hInv (by decide) rfl (by kernel_rfl) (by kernel_rfl) (by kernel_rfl) (fun _ _ _ h => h) (by rfl) (by assumption) ?_ (fun hInv2 => ?_)
        rotate_left
        · (intro w hSw; (try dsimp only at hSw); (try go_split_ands); go_simp <;> with_reducible rfl)
        clear hInv
        have hInv := hInv2
        clear hInv2
        try simp only [Act.put, List.setIfInBounds_toArray, List.set_cons_zero, List.set_cons_succ] at hInv ⊢
        refine takeS 13 (v := ?_) (tailAt (by kernel_rfl)) hInv (by decide) rfl (by kernel_rfl) (by kernel_rfl) (by kernel_rfl) (fun _ _ _ h => h) (by rfl) (by assumption) ?_ (fun hInv2 => ?_)
        rotate_left
        · (intro w hSw; (try dsimp only at hSw); (try go_split_ands); go_simp <;> with_reducible rfl)
        clear hInv
        have hInv := hInv2
        clear hInv2
        try simp only [Act.put, List.setIfInBounds_toArray, List.set_cons_zero, List.set_cons_succ] at hInv ⊢
        refine takeS 14 (v := ?_) (tailAt (by kernel_rfl)) hInv (by decide) rfl (by kernel_rfl) (by kernel_rfl) (by kernel_rfl) (fun _ _ _ h => h) (by rfl) (by assumption) ?_ (fun hInv2 => ?_)
        rotate_left
        · (intro w hSw; (try dsimp only at hSw); (try go_split_ands); go_simp <;> with_reducible rfl)
        clear hInv
        have hInv := hInv2
        clear hInv2
        try simp only [Act.put, List.setIfInBounds_toArray, List.set_cons_zero, List.set_cons_succ] at hInv ⊢
        refine takeS 15 (v := ?_) (tailAt (by kernel_rfl)) hInv (by decide) rfl (by kernel_rfl) (by kernel_rfl) (by kernel_rfl) (fun _ _ _ h => h) (by rfl) (by assumption) ?_ (fun hInv2 => ?_)
        rotate_left
        · (intro w hSw; (try dsimp only at hSw); (try go_split_ands); go_simp <;> with_reducible rfl)
        clear hInv
        have hInv := hInv2
        clear hInv2
        try simp only [Act.put, List.setIfInBounds_toArray, List.set_cons_zero, List.set_cons_succ] at hInv ⊢
        refine takeS 16 (v := ?_) (tailAt (by kernel_rfl)) hInv (by decide) rfl (by kernel_rfl) (by kernel_rfl) (by kernel_rfl) (fun _ _ _ h => h) (by rfl) (by assumption) ?_ (fun hInv2 => ?_)
        rotate_left
        · (intro w hSw; (try dsimp only at hSw); (try go_split_ands); go_simp <;> with_reducible rfl)
        clear hInv
        have hInv := hInv2
        clear hInv2
        try simp only [Act.put, List.setIfInBounds_toArray, List.set_cons_zero, List.set_cons_succ] at hInv ⊢
        refine takeS 17 (v := ?_) (tailAt (by kernel_rfl)) hInv (by decide) rfl (by kernel_rfl) (by kernel_rfl) (by kernel_rfl) (fun _ _ _ h => h) (by rfl) (by assumption) ?_ (fun hInv2 => ?_)
        rotate_left
        · (intro w hSw; (try dsimp only at hSw); (try go_split_ands); go_simp <;> with_reducible rfl)
        clear hInv
        have hInv := hInv2
        clear hInv2
        try simp only [Act.put, List.setIfInBounds_toArray, List.set_cons_zero, List.set_cons_succ] at hInv ⊢
        refine takeS 18 (v := ?_) (tailAt (by kernel_rfl)) hInv (by decide) rfl (by kernel_rfl) (by kernel_rfl) (by kernel_rfl) (fun _ _ _ h => h) (by rfl) (by assumption) ?_ (fun hInv2 => ?_)
        rotate_left
        · (intro w hSw; (try dsimp only at hSw); (try go_split_ands); go_simp <;> with_reducible rfl)
        clear hInv
        have hInv := hInv2
        clear hInv2
        try simp only [Act.put, List.setIfInBounds_toArray, List.set_cons_zero, List.set_cons_succ] at hInv ⊢
        refine takeS 19 (v := ?_) (tailAt (by kernel_rfl)) hInv (by decide) rfl (by kernel_rfl) (by kernel_rfl) (by kernel_rfl) (fun _ _ _ h => h) (by rfl) (by assumption) ?_ (fun hInv2 => ?_)
        rotate_left
        · (intro w hSw; (try dsimp only at hSw); (try go_split_ands); go_simp <;> with_reducible rfl)
        clear hInv
        have hInv := hInv2
        clear hInv2
        try simp only [Act.put, List.setIfInBounds_toArray, List.set_cons_zero, List.set_cons_succ] at hInv ⊢
        refine oneS 20 hInv (by decide) rfl (by kernel_rfl) (fun K hK => ?_)
        go_simp
        (have hb := (Below.refl wr.drew.heap.size wr.drew).alloc (Nat.le_refl _) (.cells #[.int .i64 0, .int .i64 0, .int .u64 0] (38 : Nat)))
        refine hK.out _ _ ?_ (fun hHeld2 hInv2 => ?_)
        · (try dsimp only)
          (first | assumption | (exact ⟨dA, (Below.refl _ _).drew⟩) | ((try go_split_ands); exact ⟨cellK (by assumption) hb, Below.trans (by assumption) (hb.mono (Below.size (by assumption)))⟩))
        clear hK K hHeld hInv
        have hHeld := hHeld2
        have hInv := hInv2
        clear hHeld2 hInv2
        try simp only [Act.put, List.setIfInBounds_toArray, List.set_cons_zero, List.set_cons_succ] at hInv ⊢
        refine lastS 21 rfl (by decide) (by kernel_rfl) (fun K hK => ?_)
        go_simp
        refine hK.out _ _ ?_
        clear hK K
        refine wpAnyS_done (by kernel_rfl) ?_ _
        clear hHeld hInv hb
        by_cases hz : bv % 3 = 0
        · have z4 : (bv : Int) % 3 = 0 := by omega
          obtain ⟨U, hU⟩ : ∃ U, U = 18446744073709551615 - V := ⟨_, rfl⟩
          have r7 : bits .xor .u64 IntKind.u64.max (V : Int) = (U : Int) := by rw [hU]; exact not_walk V hV2
          have r8 : Hid ((if IntKind.u64.signed = true then (-1 : Int) else IntKind.u64.max) = IntKind.u64.max) := Lib.hid rfl
          have hU2 : U < 18446744073709551616 := by omega
          replace hU := Lib.hid hU
          have hbA : Below wr.heap.size wr (wr.alloc (.cells #[.int .i64 1, .int .i64 (p : Int), .int .u64 (V : Nat)] (38 : Nat))).drew := ((Below.refl _ _).alloc (Nat.le_refl _) _).drew
          obtain ⟨b0, b1, b2⟩ := C3.new wr (.int .i64 1) (.int .i64 (p : Int)) (.int .u64 (V : Nat)) (38 : Nat)
          have dA2 := cellK dA hbA
          clear hbA
          have hbW : Below wr.heap.size wr (wr.alloc (.cells #[.int .i64 2, .int .i64 (p : Int), .int .u64 (U : Nat)] (38 : Nat))).drew := ((Below.refl _ _).alloc (Nat.le_refl _) _).drew
          have hkW : C3 (wr.alloc (.cells #[.int .i64 2, .int .i64 (p : Int), .int .u64 (U : Nat)] (38 : Nat))).drew wr.heap.size (.int .i64 2) (.int .i64 (p : Int)) (.int .u64 (U : Nat)) := C3.new _ _ _ _ _
          obtain ⟨c0, c1, c2⟩ := id hkW
          have hTW := hT.keep hbW
          have hBW := hB.trans (hbW.mono hB.size)
          obtain ⟨x1, w4, hr1, hT4, hB4, hC4⟩ := hTW.rot.push hBW.size 2 (p : Int) U (by have := hlen.out; omega)
          have e1 : (wr.alloc (.cells #[.int .i64 2, .int .i64 (p : Int), .int .u64 (U : Nat)] (38 : Nat))).drew.alloc (.cells #[.int .i64 2, .int .i64 (p : Int), .int .u64 (U : Nat)] (38 : Nat)) = ((wr.alloc (.cells #[.int .i64 2, .int .i64 (p : Int), .int .u64 (U : Nat)] (38 : Nat))).alloc (.cells #[.int .i64 2, .int .i64 (p : Int), .int .u64 (U : Nat)] (38 : Nat))).drew := rfl
          have e2 : (wr.alloc (.cells #[.int .i64 2, .int .i64 (p : Int), .int .u64 (U : Nat)] (38 : Nat))).drew.heap.size = wr.heap.size + 1 := by show (wr.alloc (.cells #[.int .i64 2, .int .i64 (p : Int), .int .u64 (U : Nat)] (38 : Nat))).heap.size = _; simp
          rw [e1, e2] at hr1
          clear e1 e2
          have hkX := hC4 _ _ _ _ hkW (hT.rot.fresh (Nat.le_refl _))
          have hBX := hBW.trans hB4
          obtain ⟨x3, w5, hr2, hT5, hB5, _⟩ := hT4.rot.push hBX.size 2 (p : Int) U (by have := hlen.out; omega)
          have hBY := hBX.trans hB5
          replace hT5 := hT5.rot
          have hinv2 := Lib.hid (hinv.out.addM (o := (2, (p : Int), U)) hU2 (fun i j h1 h2 => by rw [hU.out, hV.out]; exact one_and _ (by omega) h1 (by have := hq2; omega)))
          have hlen2 : Hid (L.length ≤ j + 1 ∧ (M ++ [(2, (p : Int), U)]).length ≤ j + 1 ∧ (X ++ [(2, (p : Int), U)]).length ≤ 2 * j + 2) := Lib.hid (by have := hlen.out; simp only [List.length_append, List.length_cons, List.length_nil]; omega)
          generalize M ++ [(2, (p : Int), U)] = Mb at *
          generalize X ++ [(2, (p : Int), U)] = Xb at *
          obtain ⟨d0, d1, d2⟩ := id hkX
          clear hbW hTW hT4 hC4 hkW hkX hBW hBX hB4 hB5 hinv hlen hT hB
          go_wp2_with (at_builtin; (try simp only [r8.out, r7]); first | (refine wpList_append_run rfl _ _ 22 rfl _ _ _ rfl rfl hr1 ?_) | (refine wpList_append_run rfl _ _ 22 rfl _ _ _ rfl rfl hr2 ?_))
          have hlenF : Hid (L.length ≤ j + 1 ∧ Mb.length ≤ j + 1 ∧ Xb.length ≤ 2 * (j + 1)) := Lib.hid (by have := hlen2.out; omega)
          clear hlen2
          go_roundw
          case rel => exact ⟨j + 1, _, _, _, by omega, by go_num, hinv2, hlenF, hT5, hBY⟩
          case measure => simp [intOf]; omega
        · have z4 : ¬ ((bv : Int) % 3 = 0) := by omega
          have hbW : Below wr.heap.size wr (wr.alloc (.cells #[.int .i64 1, .int .i64 (p : Int), .int .u64 (V : Nat)] (38 : Nat))).drew := ((Below.refl _ _).alloc (Nat.le_refl _) _).drew
          have hkW : C3 (wr.alloc (.cells #[.int .i64 1, .int .i64 (p : Int), .int .u64 (V : Nat)] (38 : Nat))).drew wr.heap.size (.int .i64 1) (.int .i64 (p : Int)) (.int .u64 (V : Nat)) := C3.new _ _ _ _ _
          have dA2 := cellK dA hbW
          obtain ⟨c0, c1, c2⟩ := id hkW
          have hTW := hT.keep hbW
          have hBW := hB.trans (hbW.mono hB.size)
          obtain ⟨x1, w4, hr1, hT4, hB4, hC4⟩ := hTW.rot.push hBW.size 1 (p : Int) V (by have := hlen.out; omega)
          have e1 : (wr.alloc (.cells #[.int .i64 1, .int .i64 (p : Int), .int .u64 (V : Nat)] (38 : Nat))).drew.alloc (.cells #[.int .i64 1, .int .i64 (p : Int), .int .u64 (V : Nat)] (38 : Nat)) = ((wr.alloc (.cells #[.int .i64 1, .int .i64 (p : Int), .int .u64 (V : Nat)] (38 : Nat))).alloc (.cells #[.int .i64 1, .int .i64 (p : Int), .int .u64 (V : Nat)] (38 : Nat))).drew := rfl
          have e2 : (wr.alloc (.cells #[.int .i64 1, .int .i64 (p : Int), .int .u64 (V : Nat)] (38 : Nat))).drew.heap.size = wr.heap.size + 1 := by show (wr.alloc (.cells #[.int .i64 1, .int .i64 (p : Int), .int .u64 (V : Nat)] (38 : Nat))).heap.size = _; simp
          rw [e1, e2] at hr1
          clear e1 e2
          have hkX := hC4 _ _ _ _ hkW (hT.rot.fresh (Nat.le_refl _))
          have hBX := hBW.trans hB4
          obtain ⟨x3, w5, hr2, hT5, hB5, _⟩ := hT4.rot.push hBX.size 1 (p : Int) V (by have := hlen.out; omega)
          have hBY := hBX.trans hB5
          replace hT5 := hT5.rot
          have hinv2 := Lib.hid (hinv.out.addM (o := (1, (p : Int), V)) hV2 (fun i j h1 h2 => by rw [hV.out]; exact one_or _ (by have := hq2; omega)))
          have hlen2 : Hid (L.length ≤ j + 1 ∧ (M ++ [(1, (p : Int), V)]).length ≤ j + 1 ∧ (X ++ [(1, (p : Int), V)]).length ≤ 2 * j + 2) := Lib.hid (by have := hlen.out; simp only [List.length_append, List.length_cons, List.length_nil]; omega)
          generalize M ++ [(1, (p : Int), V)] = Mb at *
          generalize X ++ [(1, (p : Int), V)] = Xb at *
          obtain ⟨d0, d1, d2⟩ := id hkX
          clear hbW hTW hT4 hC4 hkW hkX hBW hBX hB4 hB5 hinv hlen hT hB
          go_wp2_with (at_builtin; first | (refine wpList_append_run rfl _ _ 22 rfl _ _ _ rfl rfl hr1 ?_) | (refine wpList_append_run rfl _ _ 22 rfl _ _ _ rfl rfl hr2 ?_))
          have hlenF : Hid (L.length ≤ j + 1 ∧ Mb.length ≤ j + 1 ∧ Xb.length ≤ 2 * (j + 1)) := Lib.hid (by have := hlen2.out; omega)
          clear hlen2
          go_roundw
          case rel => exact ⟨j + 1, _, _, _, by omega, by go_num, hinv2, hlenF, hT5, hBY⟩
          case measure => simp [intOf]; omega
      · have hjb' : ¬ ((j : Int) < (NB : Int)) := by omega
        have kv := kv0.keep hB
        have k1 := hT.o1.opl
        have k2 := hT.o2.opl
        have k3 := hT.o3.opl
        clear hT kv0
        go_wp2_with fail
        refine (apply_any _ _ I L _ hI.out (by have := hn.out; omega) hinv.out.l1 (by have := hlen.out; omega) kv k1).mono ?_
        rintro e w9 ⟨va, rfl, oa, hb9⟩
        have hB9 := hB.trans (hb9.mono hB.size)
        replace kv := kv.keep hb9
        replace k1 := k1.keep hb9
        replace k2 := k2.keep hb9
        replace k3 := k3.keep hb9
        have ka := oa.kl
        clear hb9 hB
        clear oa
        go_wp2_with fail
        refine (apply_any _ _ (applyL I L) M _ (applyL_WL hinv.out.l1 hI.out) (by rw [applyL_len]; have := hn.out; omega) hinv.out.m1 (by have := hlen.out; omega) ka k2).mono ?_
        rintro e w10 ⟨vb, rfl, ob, hb10⟩
        have hB10 := hB9.trans (hb10.mono hB9.size)
        clear ka
        replace kv := kv.keep hb10
        replace k1 := k1.keep hb10
        replace k2 := k2.keep hb10
        replace k3 := k3.keep hb10
        have kb := ob.kl
        clear hb10 hB9
        clear ob
        go_wp2_with fail
        refine (apply_any _ _ I M _ hI.out (by have := hn.out; omega) hinv.out.m1 (by have := hlen.out; omega) kv k2).mono ?_
        rintro e w11 ⟨vc, rfl, oc, hb11⟩
        have hB11 := hB10.trans (hb11.mono hB10.size)
        replace kv := kv.keep hb11
        replace k1 := k1.keep hb11
        replace k2 := k2.keep hb11
        replace k3 := k3.keep hb11
        replace kb := kb.keep hb11
        have kc := oc.kl
        clear hb11 hB10
        clear oc
        go_wp2_with fail
        refine (apply_any _ _ (applyL I M) L _ (applyL_WL hinv.out.m1 hI.out) (by rw [applyL_len]; have := hn.out; omega) hinv.out.l1 (by have := hlen.out; omega) kc k1).mono ?_
        rintro e w12 ⟨vd, rfl, od, hb12⟩
        have hB12 := hB11.trans (hb12.mono hB11.size)
        clear kc
        replace kv := kv.keep hb12
        replace k1 := k1.keep hb12
        replace k2 := k2.keep hb12
        replace k3 := k3.keep hb12
        replace kb := kb.keep hb12
        have kd := od.kl
        clear hb12 hB11
        clear od
        go_wp2_with fail
        refine (apply_any _ _ I X _ hI.out (by have := hn.out; omega) hinv.out.x1 (by have := hlen.out; omega) kv k3).mono ?_
        rintro e w13 ⟨ve, rfl, oe, hb13⟩
        have hB13 := hB12.trans (hb13.mono hB12.size)
        replace kv := kv.keep hb13
        replace k1 := k1.keep hb13
        replace k2 := k2.keep hb13
        replace k3 := k3.keep hb13
        replace kb := kb.keep hb13
        replace kd := kd.keep hb13
        have ke := oe.kl
        clear hb13 hB12
        clear oe
        rw [hinv.out.lm hI.out] at kb
        rw [hinv.out.ml hI.out] at kd
        have hW := fun v u w hv hu => words_any v u (applyL I X) (applyL I X) w (by rw [applyL_len]; have := hn.out; omega) hv hu
        rw [show decide (applyL I X = applyL I X) = true by simp] at hW
        replace hW := Lib.hid hW
        go_wp2_with fail
        refine (hW.out _ _ _ kb kd).mono ?_
        rintro e w14 ⟨rfl, hb14⟩
        have hB14 := hB13.trans (hb14.mono hB13.size)
        replace kv := kv.keep hb14
        replace k1 := k1.keep hb14
        replace k2 := k2.keep hb14
        replace k3 := k3.keep hb14
        replace kb := kb.keep hb14
        replace kd := kd.keep hb14
        replace ke := ke.keep hb14
        clear hb14 hB13
        go_wp2_with fail
        refine (hW.out _ _ _ kb ke).mono ?_
        rintro e w15 ⟨rfl, hb15⟩
        have hB15 := hB14.trans (hb15.mono hB14.size)
        replace kv := kv.keep hb15
        replace k1 := k1.keep hb15
        replace k2 := k2.keep hb15
        replace k3 := k3.keep hb15
        replace kb := kb.keep hb15
        replace kd := kd.keep hb15
        replace ke := ke.keep hb15
        clear hb15 hB14
        go_wp2_with fail
        go_ret
        exact ⟨rfl, hB15⟩

theorem redoApart (v u x : Value) (I a b : List Nat) (ct : Nat) (w : World) (hI : WL I) (hv : KL .u64 w v I) (ha : BL a) (hu : KL .u8 w u a) (hb : BL b) (hx : KL .u8 w x b) (hct : ct < 256) :
    Calls Try.prog 8 #[v, u, x, .int .u8 (ct : Nat)] w fun e w' => e = .returned (.bool true) ∧ Below w.heap.size w w' := by
  by_cases h0 : I.length = 0
  · exact redoApart_n0 v u x I a b ct w hI hv ha hu hb hx hct h0
  by_cases h : 40 < I.length
  · exact redoApart_n1 v u x I a b ct w hI hv ha hu hb hx hct (by omega) h
  by_cases h2 : 15 < a.length
  · exact redoApart_n2 v u x I a b ct w hI hv ha hu hb hx hct (by omega) (by omega) h2
  by_cases h3 : 15 < b.length
  · exact redoApart_n3 v u x I a b ct w hI hv ha hu hb hx hct (by omega) (by omega) (by omega) h3
  · exact redoApart_yes v u x I a b ct w hI hv ha hu hb hx hct (by omega) (by omega) (by omega) (by omega)
end Go.Proofs.Ytibhahbimoiaaaa
