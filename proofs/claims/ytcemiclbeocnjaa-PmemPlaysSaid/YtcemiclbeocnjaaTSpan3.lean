/-
  What the calls of package span answer: both.
-/
import Derived.Test.YtcemiclbeocnjaaTSpan2
import Derived.Test.YtcemiclbeocnjaaRegX
set_option linter.unusedVariables false
namespace Go.Proofs.Ytcemiclbeocnjaa
open Go.RowKit

/-- two cells lie there -/
def Ex2 (w : World) (g : Nat) : Prop := ∃ x y, w.cell? ⟨g, 0, none⟩ = some x ∧ w.cell? ⟨g, 1, none⟩ = some y
theorem Ex2.keep {w w1 : World} {g : Nat} (h : Ex2 w g) (hb : Below w.heap.size w w1) : Ex2 w1 g := by
  obtain ⟨x, y, a, b⟩ := h
  exact ⟨x, y, cellK a hb, cellK b hb⟩
theorem Ex2.frozen0 {w w1 : World} {g : Nat} (h : Ex2 w g) (k : w.frozen? ⟨g, 0, none⟩ = false) (hb : Below w.heap.size w w1) : w1.frozen? ⟨g, 0, none⟩ = false := by
  obtain ⟨x, y, a, b⟩ := h
  exact frozK a k hb
theorem Ex2.frozen1 {w w1 : World} {g : Nat} (h : Ex2 w g) (k : w.frozen? ⟨g, 1, none⟩ = false) (hb : Below w.heap.size w w1) : w1.frozen? ⟨g, 1, none⟩ = false := by
  obtain ⟨x, y, a, b⟩ := h
  exact frozK b k hb
theorem Ex2.set {w : World} {g : Nat} {a b : Value} (h0 : w.cell? ⟨g, 0, none⟩ = some a) (h1 : w.cell? ⟨g, 1, none⟩ = some b) (x y : Value) : Ex2 ((w.setCell ⟨g, 0, none⟩ x).setCell ⟨g, 1, none⟩ y) g := by
  refine ⟨x, y, ?_, ?_⟩ <;> simp [go_sem, *]
theorem Ex2.new {w : World} {g : Nat} {x y : Value} (h : C2 w g x y) : Ex2 w g := ⟨x, y, h.1, h.2⟩
set_option maxHeartbeats 1000000 in
theorem both_any (s t : Sp) (w : World) (hs : SB s) (ht : SB t) :
    Calls Try.prog 94 #[.agg #[.int .i64 s.1, .int .i64 s.2], .agg #[.int .i64 t.1, .int .i64 t.2]] w fun e w' => e = .returned (.agg #[.int .i64 (bothS s t).1, .int .i64 (bothS s t).2]) ∧ Below w.heap.size w w' := by
  obtain ⟨a, b⟩ := s
  obtain ⟨c, d⟩ := t
  have hE1 := Lib.hid (fun w => end_any a b w hs)
  have hE2 := Lib.hid (fun w => end_any c d w ht)
  obtain ⟨h1, h2, h3, h4⟩ := hs
  obtain ⟨q1, q2, q3, q4⟩ := ht
  simp only [] at h1 h2 h3 h4 q1 q2 q3 q4
  have hO1 : Hid ((bothS (a, b) (c, d)).1 = min a c) := rfl
  have hO2 : Hid ((bothS (a, b) (c, d)).2 = max (a + b) (c + d) - min a c) := rfl
  simp only []
  generalize (bothS (a, b) (c, d)).1 = X at *
  generalize (bothS (a, b) (c, d)).2 = Y at *
  have f1 : -4398046511104 ≤ min a c := by omega
  have f2 : min a c ≤ 4398046511104 := by omega
  have f3 : -4398046511104 ≤ max (a + b) (c + d) := by omega
  have f4 : max (a + b) (c + d) ≤ 4398046511104 := by omega
  have k1 := ((C2.new w (.int .i64 a) (.int .i64 b) (63 : Nat)).alloc (.cells #[.int .i64 c, .int .i64 d] (63 : Nat))).alloc (.cells #[.int .i64 0, .int .i64 0] (63 : Nat))
  have k2 := (C2.new (w.alloc (.cells #[.int .i64 a, .int .i64 b] (63 : Nat))) (.int .i64 c) (.int .i64 d) (63 : Nat)).alloc (.cells #[.int .i64 0, .int .i64 0] (63 : Nat))
  have k3 := C2.new ((w.alloc (.cells #[.int .i64 a, .int .i64 b] (63 : Nat))).alloc (.cells #[.int .i64 c, .int .i64 d] (63 : Nat))) (.int .i64 0) (.int .i64 0) (63 : Nat)
  have k4 := F2.new ((w.alloc (.cells #[.int .i64 a, .int .i64 b] (63 : Nat))).alloc (.cells #[.int .i64 c, .int .i64 d] (63 : Nat))) (.int .i64 0) (.int .i64 0) (63 : Nat)
  have hX : X = min a c := hO1
  have hY : Y = max (a + b) (c + d) - min a c := hO2
  replace hX := Lib.hid hX
  replace hY := Lib.hid hY
  obtain ⟨a0, a1⟩ := id k1
  obtain ⟨b0, b1⟩ := id k2
  obtain ⟨c0, c1⟩ := id k3
  obtain ⟨e0, e1⟩ := id k4
  simp only [World.size_alloc] at k2 k3 k4
  have hB : Below w.heap.size w (((w.alloc (.cells #[.int .i64 a, .int .i64 b] (63 : Nat))).alloc (.cells #[.int .i64 c, .int .i64 d] (63 : Nat))).alloc (.cells #[.int .i64 0, .int .i64 0] (63 : Nat))) := (((Below.refl _ _).alloc (Nat.le_refl _) _).alloc (by simp) _).alloc (by simp; omega) _
  have hBd := hB.drew
  have r2 : Ex2 _ (w.heap.size + 1 + 1) := Ex2.new k3
  clear hO1 hO2 k1 k2 k3 k4
  obtain ⟨M, hMe⟩ : ∃ M, M = max (a + b) (c + d) := ⟨_, rfl⟩
  have hM : (if a + b < c + d then c + d else a + b) = M := by rw [hMe]; split <;> omega
  have g3 : -4398046511104 ≤ M := by omega
  have g4 : M ≤ 4398046511104 := by omega
  have hMM := Lib.hid hMe.symm
  clear hMe f3 f4
  by_cases m1 : a ≤ c
  · have hx := hX.out
    have hy := hY.out
    rw [show min a c = a by omega] at hx hy
    rw [hMM.out] at hy
    replace hx := Lib.hid hx
    replace hy := Lib.hid hy
    
    have fw : IntKind.i64.wrap (M - a) = M - a := by rw [IntKind.wrap_i64]; omega
    clear hX hY
    go_enter Try.func94, Try.ntmps94
    go_wp2_with fail
    refine wp_region_held_drew (S := (fun w' => w'.cell? ⟨w.heap.size, 0, none⟩ = some (.int .i64 a) ∧ w'.cell? ⟨w.heap.size, 1, none⟩ = some (.int .i64 b) ∧ w'.cell? ⟨w.heap.size + 1, 0, none⟩ = some (.int .i64 c) ∧ w'.cell? ⟨w.heap.size + 1, 1, none⟩ = some (.int .i64 d) ∧ w'.frozen? ⟨w.heap.size + 1 + 1, 0, none⟩ = false ∧ w'.frozen? ⟨w.heap.size + 1 + 1, 1, none⟩ = false ∧ Ex2 w' (w.heap.size + 1 + 1) ∧ Below w.heap.size w w')) (by kernel_rfl) ?_ (fun hHeld => ?_)
    · (try dsimp only)
      ((try go_split_ands); refine ⟨?_, ?_, ?_, ?_, ?_, ?_, ?_, ?_⟩ <;> first | assumption | exact hBd | (exact cellK (by assumption) hb) | (exact Ex2.keep (by assumption) hb) | (exact Ex2.frozen0 (by assumption) (by assumption) hb) | (exact Ex2.frozen1 (by assumption) (by assumption) hb) | (exact Below.trans (by assumption) (hb.mono (Below.size (by assumption)))) | (exact Ex2.set (by assumption) (by assumption) _ _) | (exact Below.setCell (Below.setCell (by assumption) (by simp; omega) _) (by simp; omega) _) | go_simp)
    refine takeL 0 (v := ?_) rfl (by kernel_rfl) (by kernel_rfl) (by kernel_rfl) (fun _ _ _ h => h) (by rfl) (by assumption) ?_ ?_
    rotate_left
    · (intro w hSw; (try dsimp only at hSw); (try go_split_ands); go_simp <;> with_reducible rfl)
    try simp only [Act.put, List.setIfInBounds_toArray, List.set_cons_zero, List.set_cons_succ]
    refine takeL 1 (v := ?_) rfl (by kernel_rfl) (by kernel_rfl) (by kernel_rfl) (fun _ _ _ h => h) (by rfl) (by assumption) ?_ ?_
    rotate_left
    · (intro w hSw; (try dsimp only at hSw); (try go_split_ands); go_simp <;> with_reducible rfl)
    try simp only [Act.put, List.setIfInBounds_toArray, List.set_cons_zero, List.set_cons_succ]
    refine takeL 3 (v := ?_) rfl (by kernel_rfl) (by kernel_rfl) (by kernel_rfl) (fun _ _ _ h => h) (by rfl) (by assumption) ?_ ?_
    rotate_left
    · (intro w hSw; (try dsimp only at hSw); (try go_split_ands); go_simp <;> with_reducible rfl)
    try simp only [Act.put, List.setIfInBounds_toArray, List.set_cons_zero, List.set_cons_succ]
    refine takeL 6 (v := ?_) rfl (by kernel_rfl) (by kernel_rfl) (by kernel_rfl) (fun _ _ _ h => h) (by rfl) (by assumption) ?_ ?_
    rotate_left
    · (intro w hSw; (try dsimp only at hSw); (try go_split_ands); go_simp <;> with_reducible rfl)
    try simp only [Act.put, List.setIfInBounds_toArray, List.set_cons_zero, List.set_cons_succ]
    refine oneL 2 rfl (by kernel_rfl) (fun K hK => ?_)
    go_simp
    (go_at_call 78; (with_reducible refine (hE1.out _).mono ?_); rintro e w8 ⟨rfl, hb⟩)
    refine hK.out _ _ ?_ (fun hHeld2 => ?_)
    · (try dsimp only)
      ((try go_split_ands); refine ⟨?_, ?_, ?_, ?_, ?_, ?_, ?_, ?_⟩ <;> first | assumption | exact hBd | (exact cellK (by assumption) hb) | (exact Ex2.keep (by assumption) hb) | (exact Ex2.frozen0 (by assumption) (by assumption) hb) | (exact Ex2.frozen1 (by assumption) (by assumption) hb) | (exact Below.trans (by assumption) (hb.mono (Below.size (by assumption)))) | (exact Ex2.set (by assumption) (by assumption) _ _) | (exact Below.setCell (Below.setCell (by assumption) (by simp; omega) _) (by simp; omega) _) | go_simp)
    clear hK K hHeld
    have hHeld := hHeld2
    clear hHeld2
    try simp only [Act.put, List.setIfInBounds_toArray, List.set_cons_zero, List.set_cons_succ]
    refine oneL 4 rfl (by kernel_rfl) (fun K hK => ?_)
    go_simp
    (go_at_call 78; (with_reducible refine (hE2.out _).mono ?_); rintro e w8 ⟨rfl, hb⟩)
    refine hK.out _ _ ?_ (fun hHeld2 => ?_)
    · (try dsimp only)
      ((try go_split_ands); refine ⟨?_, ?_, ?_, ?_, ?_, ?_, ?_, ?_⟩ <;> first | assumption | exact hBd | (exact cellK (by assumption) hb) | (exact Ex2.keep (by assumption) hb) | (exact Ex2.frozen0 (by assumption) (by assumption) hb) | (exact Ex2.frozen1 (by assumption) (by assumption) hb) | (exact Below.trans (by assumption) (hb.mono (Below.size (by assumption)))) | (exact Ex2.set (by assumption) (by assumption) _ _) | (exact Below.setCell (Below.setCell (by assumption) (by simp; omega) _) (by simp; omega) _) | go_simp)
    clear hK K hHeld
    have hHeld := hHeld2
    clear hHeld2
    try simp only [Act.put, List.setIfInBounds_toArray, List.set_cons_zero, List.set_cons_succ]
    refine takeL 5 (v := ?_) rfl (by kernel_rfl) (by kernel_rfl) (by kernel_rfl) (fun _ _ _ h => h) (by rfl) (by assumption) ?_ ?_
    rotate_left
    · (intro w hSw; (try dsimp only at hSw); (try go_split_ands); go_simp <;> with_reducible rfl)
    try simp only [Act.put, List.setIfInBounds_toArray, List.set_cons_zero, List.set_cons_succ]
    refine takeL 7 (v := ?_) rfl (by kernel_rfl) (by kernel_rfl) (by kernel_rfl) (fun _ _ _ h => h) (by rfl) (by assumption) ?_ ?_
    rotate_left
    · (intro w hSw; (try dsimp only at hSw); (try go_split_ands); go_simp <;> with_reducible rfl)
    try simp only [Act.put, List.setIfInBounds_toArray, List.set_cons_zero, List.set_cons_succ]
    refine takeL 8 (v := ?_) rfl (by kernel_rfl) (by kernel_rfl) (by kernel_rfl) (fun _ _ _ h => h) (by rfl) (by assumption) ?_ ?_
    rotate_left
    · (intro w hSw; (try dsimp only at hSw); (try go_split_ands); go_simp <;> with_reducible rfl)
    try simp only [Act.put, List.setIfInBounds_toArray, List.set_cons_zero, List.set_cons_succ]
    refine oneL 9 rfl (by kernel_rfl) (fun K hK => ?_)
    go_simp
    (go_split_ands; obtain ⟨x0, x1, r0, r1⟩ := ‹Ex2 _ _›; go_simp; (try simp only [Result.andThen_ok]); (try go_simp))
    refine hK.out _ _ ?_ (fun hHeld2 => ?_)
    · (try dsimp only)
      ((try go_split_ands); refine ⟨?_, ?_, ?_, ?_, ?_, ?_, ?_, ?_⟩ <;> first | assumption | exact hBd | (exact cellK (by assumption) hb) | (exact Ex2.keep (by assumption) hb) | (exact Ex2.frozen0 (by assumption) (by assumption) hb) | (exact Ex2.frozen1 (by assumption) (by assumption) hb) | (exact Below.trans (by assumption) (hb.mono (Below.size (by assumption)))) | (exact Ex2.set (by assumption) (by assumption) _ _) | (exact Below.setCell (Below.setCell (by assumption) (by simp; omega) _) (by simp; omega) _) | go_simp)
    clear hK K
    try simp only [Act.put, List.setIfInBounds_toArray, List.set_cons_zero, List.set_cons_succ]
    refine wpAnyH_done (by kernel_rfl) ?_ _
    go_wp2_with fail
    (try simp only [Exit.inBlock, Exit.then])
    have hBE := ‹Below w.heap.size w w8›
    refine bodyPost_ret (v := .agg #[.int .i64 a, .int .i64 (M - a)]) ?_ rfl ⟨by rw [hx.out, hy.out], (hBE.setCell (by simp; omega) _).setCell (by simp; omega) _⟩
    simp [results, Try.results94, go_sem, r0, r1]
  · have hx := hX.out
    have hy := hY.out
    rw [show min a c = c by omega] at hx hy
    rw [hMM.out] at hy
    replace hx := Lib.hid hx
    replace hy := Lib.hid hy
    have m3 : c < a := by omega
    have fw : IntKind.i64.wrap (M - c) = M - c := by rw [IntKind.wrap_i64]; omega
    clear hX hY
    go_enter Try.func94, Try.ntmps94
    go_wp2_with fail
    refine wp_region_held_drew (S := (fun w' => w'.cell? ⟨w.heap.size, 0, none⟩ = some (.int .i64 a) ∧ w'.cell? ⟨w.heap.size, 1, none⟩ = some (.int .i64 b) ∧ w'.cell? ⟨w.heap.size + 1, 0, none⟩ = some (.int .i64 c) ∧ w'.cell? ⟨w.heap.size + 1, 1, none⟩ = some (.int .i64 d) ∧ w'.frozen? ⟨w.heap.size + 1 + 1, 0, none⟩ = false ∧ w'.frozen? ⟨w.heap.size + 1 + 1, 1, none⟩ = false ∧ Ex2 w' (w.heap.size + 1 + 1) ∧ Below w.heap.size w w')) (by kernel_rfl) ?_ (fun hHeld => ?_)
    · (try dsimp only)
      ((try go_split_ands); refine ⟨?_, ?_, ?_, ?_, ?_, ?_, ?_, ?_⟩ <;> first | assumption | exact hBd | (exact cellK (by assumption) hb) | (exact Ex2.keep (by assumption) hb) | (exact Ex2.frozen0 (by assumption) (by assumption) hb) | (exact Ex2.frozen1 (by assumption) (by assumption) hb) | (exact Below.trans (by assumption) (hb.mono (Below.size (by assumption)))) | (exact Ex2.set (by assumption) (by assumption) _ _) | (exact Below.setCell (Below.setCell (by assumption) (by simp; omega) _) (by simp; omega) _) | go_simp)
    refine takeL 0 (v := ?_) rfl (by kernel_rfl) (by kernel_rfl) (by kernel_rfl) (fun _ _ _ h => h) (by rfl) (by assumption) ?_ ?_
    rotate_left
    · (intro w hSw; (try dsimp only at hSw); (try go_split_ands); go_simp <;> with_reducible rfl)
    try simp only [Act.put, List.setIfInBounds_toArray, List.set_cons_zero, List.set_cons_succ]
    refine takeL 1 (v := ?_) rfl (by kernel_rfl) (by kernel_rfl) (by kernel_rfl) (fun _ _ _ h => h) (by rfl) (by assumption) ?_ ?_
    rotate_left
    · (intro w hSw; (try dsimp only at hSw); (try go_split_ands); go_simp <;> with_reducible rfl)
    try simp only [Act.put, List.setIfInBounds_toArray, List.set_cons_zero, List.set_cons_succ]
    refine takeL 3 (v := ?_) rfl (by kernel_rfl) (by kernel_rfl) (by kernel_rfl) (fun _ _ _ h => h) (by rfl) (by assumption) ?_ ?_
    rotate_left
    · (intro w hSw; (try dsimp only at hSw); (try go_split_ands); go_simp <;> with_reducible rfl)
    try simp only [Act.put, List.setIfInBounds_toArray, List.set_cons_zero, List.set_cons_succ]
    refine takeL 6 (v := ?_) rfl (by kernel_rfl) (by kernel_rfl) (by kernel_rfl) (fun _ _ _ h => h) (by rfl) (by assumption) ?_ ?_
    rotate_left
    · (intro w hSw; (try dsimp only at hSw); (try go_split_ands); go_simp <;> with_reducible rfl)
    try simp only [Act.put, List.setIfInBounds_toArray, List.set_cons_zero, List.set_cons_succ]
    refine oneL 2 rfl (by kernel_rfl) (fun K hK => ?_)
    go_simp
    (go_at_call 78; (with_reducible refine (hE1.out _).mono ?_); rintro e w8 ⟨rfl, hb⟩)
    refine hK.out _ _ ?_ (fun hHeld2 => ?_)
    · (try dsimp only)
      ((try go_split_ands); refine ⟨?_, ?_, ?_, ?_, ?_, ?_, ?_, ?_⟩ <;> first | assumption | exact hBd | (exact cellK (by assumption) hb) | (exact Ex2.keep (by assumption) hb) | (exact Ex2.frozen0 (by assumption) (by assumption) hb) | (exact Ex2.frozen1 (by assumption) (by assumption) hb) | (exact Below.trans (by assumption) (hb.mono (Below.size (by assumption)))) | (exact Ex2.set (by assumption) (by assumption) _ _) | (exact Below.setCell (Below.setCell (by assumption) (by simp; omega) _) (by simp; omega) _) | go_simp)
    clear hK K hHeld
    have hHeld := hHeld2
    clear hHeld2
    try simp only [Act.put, List.setIfInBounds_toArray, List.set_cons_zero, List.set_cons_succ]
    refine oneL 4 rfl (by kernel_rfl) (fun K hK => ?_)
    go_simp
    (go_at_call 78; (with_reducible refine (hE2.out _).mono ?_); rintro e w8 ⟨rfl, hb⟩)
    refine hK.out _ _ ?_ (fun hHeld2 => ?_)
    · (try dsimp only)
      ((try go_split_ands); refine ⟨?_, ?_, ?_, ?_, ?_, ?_, ?_, ?_⟩ <;> first | assumption | exact hBd | (exact cellK (by assumption) hb) | (exact Ex2.keep (by assumption) hb) | (exact Ex2.frozen0 (by assumption) (by assumption) hb) | (exact Ex2.frozen1 (by assumption) (by assumption) hb) | (exact Below.trans (by assumption) (hb.mono (Below.size (by assumption)))) | (exact Ex2.set (by assumption) (by assumption) _ _) | (exact Below.setCell (Below.setCell (by assumption) (by simp; omega) _) (by simp; omega) _) | go_simp)
    clear hK K hHeld
    have hHeld := hHeld2
    clear hHeld2
    try simp only [Act.put, List.setIfInBounds_toArray, List.set_cons_zero, List.set_cons_succ]
    refine takeL 5 (v := ?_) rfl (by kernel_rfl) (by kernel_rfl) (by kernel_rfl) (fun _ _ _ h => h) (by rfl) (by assumption) ?_ ?_
    rotate_left
    · (intro w hSw; (try dsimp only at hSw); (try go_split_ands); go_simp <;> with_reducible rfl)
    try simp only [Act.put, List.setIfInBounds_toArray, List.set_cons_zero, List.set_cons_succ]
    refine takeL 7 (v := ?_) rfl (by kernel_rfl) (by kernel_rfl) (by kernel_rfl) (fun _ _ _ h => h) (by rfl) (by assumption) ?_ ?_
    rotate_left
    · (intro w hSw; (try dsimp only at hSw); (try go_split_ands); go_simp <;> with_reducible rfl)
    try simp only [Act.put, List.setIfInBounds_toArray, List.set_cons_zero, List.set_cons_succ]
    refine takeL 8 (v := ?_) rfl (by kernel_rfl) (by kernel_rfl) (by kernel_rfl) (fun _ _ _ h => h) (by rfl) (by assumption) ?_ ?_
    rotate_left
    · (intro w hSw; (try dsimp only at hSw); (try go_split_ands); go_simp <;> with_reducible rfl)
    try simp only [Act.put, List.setIfInBounds_toArray, List.set_cons_zero, List.set_cons_succ]
    refine oneL 9 rfl (by kernel_rfl) (fun K hK => ?_)
    go_simp
    (go_split_ands; obtain ⟨x0, x1, r0, r1⟩ := ‹Ex2 _ _›; go_simp; (try simp only [Result.andThen_ok]); (try go_simp))
    refine hK.out _ _ ?_ (fun hHeld2 => ?_)
    · (try dsimp only)
      ((try go_split_ands); refine ⟨?_, ?_, ?_, ?_, ?_, ?_, ?_, ?_⟩ <;> first | assumption | exact hBd | (exact cellK (by assumption) hb) | (exact Ex2.keep (by assumption) hb) | (exact Ex2.frozen0 (by assumption) (by assumption) hb) | (exact Ex2.frozen1 (by assumption) (by assumption) hb) | (exact Below.trans (by assumption) (hb.mono (Below.size (by assumption)))) | (exact Ex2.set (by assumption) (by assumption) _ _) | (exact Below.setCell (Below.setCell (by assumption) (by simp; omega) _) (by simp; omega) _) | go_simp)
    clear hK K
    try simp only [Act.put, List.setIfInBounds_toArray, List.set_cons_zero, List.set_cons_succ]
    refine wpAnyH_done (by kernel_rfl) ?_ _
    go_wp2_with fail
    (try simp only [Exit.inBlock, Exit.then])
    have hBE := ‹Below w.heap.size w w8›
    refine bodyPost_ret (v := .agg #[.int .i64 c, .int .i64 (M - c)]) ?_ rfl ⟨by rw [hx.out, hy.out], (hBE.setCell (by simp; omega) _).setCell (by simp; omega) _⟩
    simp [results, Try.results94, go_sem, r0, r1]
end Go.Proofs.Ytcemiclbeocnjaa
