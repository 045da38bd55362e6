/-
  What the calls of package span answer, whatever the numbers are: end, both, Add.
-/
import Derived.Test.YthklgmpphfdfoaaSpan4
import Derived.Test.YthklgmpphfdfoaaSpanO
set_option linter.unusedVariables false
namespace Go.Proofs.Ythklgmpphfdfoaa
open Go.RowKit

def PW (s : Sp) : Prop := -9223372036854775808 ≤ s.1 ∧ s.1 ≤ 9223372036854775807 ∧ -9223372036854775808 ≤ s.2 ∧ s.2 ≤ 9223372036854775807
theorem PI.at {l : List Sp} (h : PI l) (i : Nat) (hi : i < l.length) : PW (l.getD i (0, 0)) := by
  rw [List.getD_eq_getElem?_getD, List.getElem?_eq_getElem hi]
  exact h _ (List.getElem_mem hi)
def endW (s : Sp) : Int := IntKind.i64.wrap (s.1 + s.2)
def bothW (s x : Sp) : Sp := (min s.1 x.1, IntKind.i64.wrap (max (endW s) (endW x) - min s.1 x.1))
theorem endW_eq {s : Sp} (h : SB s) : endW s = s.1 + s.2 := by
  unfold SB at h
  unfold endW
  rw [IntKind.wrap_i64]; omega
theorem bothW_eq {s x : Sp} (h : SB s) (k : SB x) : bothW s x = bothS s x := by
  unfold bothW bothS
  rw [endW_eq h, endW_eq k]
  unfold SB at h k
  congr 1
  rw [IntKind.wrap_i64]; omega
theorem PW.both {s x : Sp} (h : PW s) (k : PW x) : PW (bothW s x) := by
  unfold PW at *
  unfold bothW
  simp only []
  rw [IntKind.wrap_i64]
  omega
def addFW (t : AddSt) (x : Sp) : AddSt :=
  if t.s.2 < 1 ∨ endW x < t.s.1 then { t with b := t.b ++ [x] } else if endW t.s < x.1 then { t with a := t.a ++ [x] } else { t with s := bothW t.s x }
def addAllW (l : List Sp) (s : Sp) : AddSt := l.foldl addFW ⟨[], [], s⟩
def addSW (l : List Sp) (s : Sp) : List Sp := ((addAllW l s).b ++ if (addAllW l s).s.2 < 1 then [] else [(addAllW l s).s]) ++ (addAllW l s).a
theorem addAllW_snoc (l : List Sp) (x s : Sp) : addAllW (l ++ [x]) s = addFW (addAllW l s) x := by unfold addAllW; rw [List.foldl_append]; rfl

set_option maxHeartbeats 400000 in
theorem end_wild (s : Sp) (w : World) :
    Calls Try.prog 35 #[.agg #[.int .i64 s.1, .int .i64 s.2]] w fun e w' => e = .returned (.int .i64 (endW s)) ∧ Below w.heap.size w w' := by
  have hE := Lib.hid (show endW s = wrap64 (s.1 + s.2) from by unfold endW wrap64; exact IntKind.wrap_i64 _)
  go_enter Try.func35, Try.ntmps35
  go_wp2_with fail
  go_ret
  exact ⟨by rw [hE.out]; rfl, (Below.refl _ _).alloc (Nat.le_refl _) _⟩
set_option maxHeartbeats 1000000 in
theorem both_wild (s t : Sp) (w : World) (hs : PW s) (ht : PW t) :
    Calls Try.prog 36 #[.agg #[.int .i64 s.1, .int .i64 s.2], .agg #[.int .i64 t.1, .int .i64 t.2]] w fun e w' => e = .returned (.agg #[.int .i64 (bothW s t).1, .int .i64 (bothW s t).2]) ∧ Below w.heap.size w w' := by
  obtain ⟨a, b⟩ := s
  obtain ⟨c, d⟩ := t
  have hE1 := Lib.hid (fun w => end_wild (a, b) w)
  have hE2 := Lib.hid (fun w => end_wild (c, d) w)
  obtain ⟨h1, h2, h3, h4⟩ := hs
  obtain ⟨q1, q2, q3, q4⟩ := ht
  simp only [] at h1 h2 h3 h4 q1 q2 q3 q4 hE1 hE2
  have hO1 : Hid ((bothW (a, b) (c, d)).1 = min a c) := rfl
  have hO2 : Hid ((bothW (a, b) (c, d)).2 = IntKind.i64.wrap (max (endW (a, b)) (endW (c, d)) - min a c)) := rfl
  simp only []
  generalize (bothW (a, b) (c, d)).1 = X at *
  generalize (bothW (a, b) (c, d)).2 = Y at *
  have k1 := ((C2.new w (.int .i64 a) (.int .i64 b) (45 : Nat)).alloc (.cells #[.int .i64 c, .int .i64 d] (45 : Nat))).alloc (.cells #[.int .i64 0, .int .i64 0] (45 : Nat))
  have k2 := (C2.new (w.alloc (.cells #[.int .i64 a, .int .i64 b] (45 : Nat))) (.int .i64 c) (.int .i64 d) (45 : Nat)).alloc (.cells #[.int .i64 0, .int .i64 0] (45 : Nat))
  have k3 := C2.new ((w.alloc (.cells #[.int .i64 a, .int .i64 b] (45 : Nat))).alloc (.cells #[.int .i64 c, .int .i64 d] (45 : Nat))) (.int .i64 0) (.int .i64 0) (45 : Nat)
  have k4 := F2.new ((w.alloc (.cells #[.int .i64 a, .int .i64 b] (45 : Nat))).alloc (.cells #[.int .i64 c, .int .i64 d] (45 : Nat))) (.int .i64 0) (.int .i64 0) (45 : Nat)
  have hX : X = min a c := hO1
  have hY : Y = IntKind.i64.wrap (max (endW (a, b)) (endW (c, d)) - min a c) := hO2
  replace hX := Lib.hid hX
  replace hY := Lib.hid hY
  obtain ⟨a0, a1⟩ := id k1
  obtain ⟨b0, b1⟩ := id k2
  obtain ⟨c0, c1⟩ := id k3
  obtain ⟨e0, e1⟩ := id k4
  simp only [World.size_alloc] at k2 k3 k4
  have hB : Below w.heap.size w (((w.alloc (.cells #[.int .i64 a, .int .i64 b] (45 : Nat))).alloc (.cells #[.int .i64 c, .int .i64 d] (45 : Nat))).alloc (.cells #[.int .i64 0, .int .i64 0] (45 : Nat))) := (((Below.refl _ _).alloc (Nat.le_refl _) _).alloc (by simp) _).alloc (by simp; omega) _
  have hBd := hB.drew
  have r2 : Ex2 _ (w.heap.size + 1 + 1) := Ex2.new k3
  clear hO1 hO2 k1 k2 k3 k4
  obtain ⟨M, hMe⟩ : ∃ M, M = max (endW (a, b)) (endW (c, d)) := ⟨_, rfl⟩
  have hM : (if endW (a, b) < endW (c, d) then endW (c, d) else endW (a, b)) = M := by rw [hMe]; split <;> omega
  have hMM := Lib.hid hMe.symm
  clear hMe
  generalize endW (a, b) = ea at *
  generalize endW (c, d) = ec at *
  by_cases m1 : a ≤ c
  · have hx := hX.out
    have hy := hY.out
    rw [show min a c = a by omega] at hx hy
    rw [hMM.out] at hy
    replace hx := Lib.hid hx
    replace hy := Lib.hid hy
    
    clear hX hY
    go_enter Try.func36, Try.ntmps36
    go_wp2_with fail
    refine wp_region_held_drew (S := (fun w' => w'.cell? ⟨w.heap.size, 0, none⟩ = some (.int .i64 a) ∧ w'.cell? ⟨w.heap.size, 1, none⟩ = some (.int .i64 b) ∧ w'.cell? ⟨w.heap.size + 1, 0, none⟩ = some (.int .i64 c) ∧ w'.cell? ⟨w.heap.size + 1, 1, none⟩ = some (.int .i64 d) ∧ w'.frozen? ⟨w.heap.size + 1 + 1, 0, none⟩ = false ∧ w'.frozen? ⟨w.heap.size + 1 + 1, 1, none⟩ = false ∧ Ex2 w' (w.heap.size + 1 + 1) ∧ Below w.heap.size w w')) (by kernel_rfl) ?_ (fun hHeld => ?_)
    · (try dsimp only)
      ((try go_split_ands); refine ⟨?_, ?_, ?_, ?_, ?_, ?_, ?_, ?_⟩ <;> first | assumption | exact hBd | (exact cellK (by assumption) hb) | (exact Ex2.keep (by assumption) hb) | (exact Ex2.frozen0 (by assumption) (by assumption) hb) | (exact Ex2.frozen1 (by assumption) (by assumption) hb) | (exact Below.trans (by assumption) (hb.mono (Below.size (by assumption)))) | (exact Ex2.set (by assumption) (by assumption) _ _) | (exact Below.setCell (Below.setCell (by assumption) (by simp; omega) _) (by simp; omega) _) | go_simp)
    refine takeL 0 (v := ?_) rfl (by kernel_rfl) (by kernel_rfl) (by kernel_rfl) (fun _ _ _ h => h) (by rfl) (by assumption) ?_ ?_
    rotate_left
    · (intro w hSw; (try dsimp only at hSw); (try go_split_ands); go_simp <;> with_reducible rfl)
    try simp only [Act.put, List.setIfInBounds_toArray, List.set_cons_zero, List.set_cons_succ]
    refine takeL 1 (v := ?_) rfl (by kernel_rfl) (by kernel_rfl) (by kernel_rfl) (fun _ _ _ h => h) (by rfl) (by assumption) ?_ ?_
    rotate_left
    · (intro w hSw; (try dsimp only at hSw); (try go_split_ands); go_simp <;> with_reducible rfl)
    try simp only [Act.put, List.setIfInBounds_toArray, List.set_cons_zero, List.set_cons_succ]
    refine takeL 3 (v := ?_) rfl (by kernel_rfl) (by kernel_rfl) (by kernel_rfl) (fun _ _ _ h => h) (by rfl) (by assumption) ?_ ?_
    rotate_left
    · (intro w hSw; (try dsimp only at hSw); (try go_split_ands); go_simp <;> with_reducible rfl)
    try simp only [Act.put, List.setIfInBounds_toArray, List.set_cons_zero, List.set_cons_succ]
    refine takeL 6 (v := ?_) rfl (by kernel_rfl) (by kernel_rfl) (by kernel_rfl) (fun _ _ _ h => h) (by rfl) (by assumption) ?_ ?_
    rotate_left
    · (intro w hSw; (try dsimp only at hSw); (try go_split_ands); go_simp <;> with_reducible rfl)
    try simp only [Act.put, List.setIfInBounds_toArray, List.set_cons_zero, List.set_cons_succ]
    refine oneL 2 rfl (by kernel_rfl) (fun K hK => ?_)
    go_simp
    (go_at_call 35; (with_reducible refine (hE1.out _).mono ?_); rintro e w8 ⟨rfl, hb⟩)
    refine hK.out _ _ ?_ (fun hHeld2 => ?_)
    · (try dsimp only)
      ((try go_split_ands); refine ⟨?_, ?_, ?_, ?_, ?_, ?_, ?_, ?_⟩ <;> first | assumption | exact hBd | (exact cellK (by assumption) hb) | (exact Ex2.keep (by assumption) hb) | (exact Ex2.frozen0 (by assumption) (by assumption) hb) | (exact Ex2.frozen1 (by assumption) (by assumption) hb) | (exact Below.trans (by assumption) (hb.mono (Below.size (by assumption)))) | (exact Ex2.set (by assumption) (by assumption) _ _) | (exact Below.setCell (Below.setCell (by assumption) (by simp; omega) _) (by simp; omega) _) | go_simp)
    clear hK K hHeld
    have hHeld := hHeld2
    clear hHeld2
    try simp only [Act.put, List.setIfInBounds_toArray, List.set_cons_zero, List.set_cons_succ]
    refine oneL 4 rfl (by kernel_rfl) (fun K hK => ?_)
    go_simp
    (go_at_call 35; (with_reducible refine (hE2.out _).mono ?_); rintro e w8 ⟨rfl, hb⟩)
    refine hK.out _ _ ?_ (fun hHeld2 => ?_)
    · (try dsimp only)
      ((try go_split_ands); refine ⟨?_, ?_, ?_, ?_, ?_, ?_, ?_, ?_⟩ <;> first | assumption | exact hBd | (exact cellK (by assumption) hb) | (exact Ex2.keep (by assumption) hb) | (exact Ex2.frozen0 (by assumption) (by assumption) hb) | (exact Ex2.frozen1 (by assumption) (by assumption) hb) | (exact Below.trans (by assumption) (hb.mono (Below.size (by assumption)))) | (exact Ex2.set (by assumption) (by assumption) _ _) | (exact Below.setCell (Below.setCell (by assumption) (by simp; omega) _) (by simp; omega) _) | go_simp)
    clear hK K hHeld
    have hHeld := hHeld2
    clear hHeld2
    try simp only [Act.put, List.setIfInBounds_toArray, List.set_cons_zero, List.set_cons_succ]
    refine takeL 5 (v := ?_) rfl (by kernel_rfl) (by kernel_rfl) (by kernel_rfl) (fun _ _ _ h => h) (by rfl) (by assumption) ?_ ?_
    rotate_left
    · (intro w hSw; (try dsimp only at hSw); (try go_split_ands); go_simp <;> with_reducible rfl)
    try simp only [Act.put, List.setIfInBounds_toArray, List.set_cons_zero, List.set_cons_succ]
    refine takeL 7 (v := ?_) rfl (by kernel_rfl) (by kernel_rfl) (by kernel_rfl) (fun _ _ _ h => h) (by rfl) (by assumption) ?_ ?_
    rotate_left
    · (intro w hSw; (try dsimp only at hSw); (try go_split_ands); go_simp <;> with_reducible rfl)
    try simp only [Act.put, List.setIfInBounds_toArray, List.set_cons_zero, List.set_cons_succ]
    refine takeL 8 (v := ?_) rfl (by kernel_rfl) (by kernel_rfl) (by kernel_rfl) (fun _ _ _ h => h) (by rfl) (by assumption) ?_ ?_
    rotate_left
    · (intro w hSw; (try dsimp only at hSw); (try go_split_ands); go_simp <;> with_reducible rfl)
    try simp only [Act.put, List.setIfInBounds_toArray, List.set_cons_zero, List.set_cons_succ]
    refine oneL 9 rfl (by kernel_rfl) (fun K hK => ?_)
    go_simp
    (go_split_ands; obtain ⟨x0, x1, r0, r1⟩ := ‹Ex2 _ _›; go_simp; (try simp only [Result.andThen_ok]); (try go_simp))
    refine hK.out _ _ ?_ (fun hHeld2 => ?_)
    · (try dsimp only)
      ((try go_split_ands); refine ⟨?_, ?_, ?_, ?_, ?_, ?_, ?_, ?_⟩ <;> first | assumption | exact hBd | (exact cellK (by assumption) hb) | (exact Ex2.keep (by assumption) hb) | (exact Ex2.frozen0 (by assumption) (by assumption) hb) | (exact Ex2.frozen1 (by assumption) (by assumption) hb) | (exact Below.trans (by assumption) (hb.mono (Below.size (by assumption)))) | (exact Ex2.set (by assumption) (by assumption) _ _) | (exact Below.setCell (Below.setCell (by assumption) (by simp; omega) _) (by simp; omega) _) | go_simp)
    clear hK K
    try simp only [Act.put, List.setIfInBounds_toArray, List.set_cons_zero, List.set_cons_succ]
    refine wpAnyH_done (by kernel_rfl) ?_ _
    go_wp2_with fail
    (try simp only [Exit.inBlock, Exit.then])
    have hBE := ‹Below w.heap.size w w8›
    refine bodyPost_ret (v := .agg #[.int .i64 a, .int .i64 (IntKind.i64.wrap (M - a))]) ?_ rfl ⟨by rw [hx.out, hy.out], (hBE.setCell (by simp; omega) _).setCell (by simp; omega) _⟩
    simp [results, Try.results36, go_sem, r0, r1]
  · have hx := hX.out
    have hy := hY.out
    rw [show min a c = c by omega] at hx hy
    rw [hMM.out] at hy
    replace hx := Lib.hid hx
    replace hy := Lib.hid hy
    have m3 : c < a := by omega
    clear hX hY
    go_enter Try.func36, Try.ntmps36
    go_wp2_with fail
    refine wp_region_held_drew (S := (fun w' => w'.cell? ⟨w.heap.size, 0, none⟩ = some (.int .i64 a) ∧ w'.cell? ⟨w.heap.size, 1, none⟩ = some (.int .i64 b) ∧ w'.cell? ⟨w.heap.size + 1, 0, none⟩ = some (.int .i64 c) ∧ w'.cell? ⟨w.heap.size + 1, 1, none⟩ = some (.int .i64 d) ∧ w'.frozen? ⟨w.heap.size + 1 + 1, 0, none⟩ = false ∧ w'.frozen? ⟨w.heap.size + 1 + 1, 1, none⟩ = false ∧ Ex2 w' (w.heap.size + 1 + 1) ∧ Below w.heap.size w w')) (by kernel_rfl) ?_ (fun hHeld => ?_)
    · (try dsimp only)
      ((try go_split_ands); refine ⟨?_, ?_, ?_, ?_, ?_, ?_, ?_, ?_⟩ <;> first | assumption | exact hBd | (exact cellK (by assumption) hb) | (exact Ex2.keep (by assumption) hb) | (exact Ex2.frozen0 (by assumption) (by assumption) hb) | (exact Ex2.frozen1 (by assumption) (by assumption) hb) | (exact Below.trans (by assumption) (hb.mono (Below.size (by assumption)))) | (exact Ex2.set (by assumption) (by assumption) _ _) | (exact Below.setCell (Below.setCell (by assumption) (by simp; omega) _) (by simp; omega) _) | go_simp)
    refine takeL 0 (v := ?_) rfl (by kernel_rfl) (by kernel_rfl) (by kernel_rfl) (fun _ _ _ h => h) (by rfl) (by assumption) ?_ ?_
    rotate_left
    · (intro w hSw; (try dsimp only at hSw); (try go_split_ands); go_simp <;> with_reducible rfl)
    try simp only [Act.put, List.setIfInBounds_toArray, List.set_cons_zero, List.set_cons_succ]
    refine takeL 1 (v := ?_) rfl (by kernel_rfl) (by kernel_rfl) (by kernel_rfl) (fun _ _ _ h => h) (by rfl) (by assumption) ?_ ?_
    rotate_left
    · (intro w hSw; (try dsimp only at hSw); (try go_split_ands); go_simp <;> with_reducible rfl)
    try simp only [Act.put, List.setIfInBounds_toArray, List.set_cons_zero, List.set_cons_succ]
    refine takeL 3 (v := ?_) rfl (by kernel_rfl) (by kernel_rfl) (by kernel_rfl) (fun _ _ _ h => h) (by rfl) (by assumption) ?_ ?_
    rotate_left
    · (intro w hSw; (try dsimp only at hSw); (try go_split_ands); go_simp <;> with_reducible rfl)
    try simp only [Act.put, List.setIfInBounds_toArray, List.set_cons_zero, List.set_cons_succ]
    refine takeL 6 (v := ?_) rfl (by kernel_rfl) (by kernel_rfl) (by kernel_rfl) (fun _ _ _ h => h) (by rfl) (by assumption) ?_ ?_
    rotate_left
    · (intro w hSw; (try dsimp only at hSw); (try go_split_ands); go_simp <;> with_reducible rfl)
    try simp only [Act.put, List.setIfInBounds_toArray, List.set_cons_zero, List.set_cons_succ]
    refine oneL 2 rfl (by kernel_rfl) (fun K hK => ?_)
    go_simp
    (go_at_call 35; (with_reducible refine (hE1.out _).mono ?_); rintro e w8 ⟨rfl, hb⟩)
    refine hK.out _ _ ?_ (fun hHeld2 => ?_)
    · (try dsimp only)
      ((try go_split_ands); refine ⟨?_, ?_, ?_, ?_, ?_, ?_, ?_, ?_⟩ <;> first | assumption | exact hBd | (exact cellK (by assumption) hb) | (exact Ex2.keep (by assumption) hb) | (exact Ex2.frozen0 (by assumption) (by assumption) hb) | (exact Ex2.frozen1 (by assumption) (by assumption) hb) | (exact Below.trans (by assumption) (hb.mono (Below.size (by assumption)))) | (exact Ex2.set (by assumption) (by assumption) _ _) | (exact Below.setCell (Below.setCell (by assumption) (by simp; omega) _) (by simp; omega) _) | go_simp)
    clear hK K hHeld
    have hHeld := hHeld2
    clear hHeld2
    try simp only [Act.put, List.setIfInBounds_toArray, List.set_cons_zero, List.set_cons_succ]
    refine oneL 4 rfl (by kernel_rfl) (fun K hK => ?_)
    go_simp
    (go_at_call 35; (with_reducible refine (hE2.out _).mono ?_); rintro e w8 ⟨rfl, hb⟩)
    refine hK.out _ _ ?_ (fun hHeld2 => ?_)
    · (try dsimp only)
      ((try go_split_ands); refine ⟨?_, ?_, ?_, ?_, ?_, ?_, ?_, ?_⟩ <;> first | assumption | exact hBd | (exact cellK (by assumption) hb) | (exact Ex2.keep (by assumption) hb) | (exact Ex2.frozen0 (by assumption) (by assumption) hb) | (exact Ex2.frozen1 (by assumption) (by assumption) hb) | (exact Below.trans (by assumption) (hb.mono (Below.size (by assumption)))) | (exact Ex2.set (by assumption) (by assumption) _ _) | (exact Below.setCell (Below.setCell (by assumption) (by simp; omega) _) (by simp; omega) _) | go_simp)
    clear hK K hHeld
    have hHeld := hHeld2
    clear hHeld2
    try simp only [Act.put, List.setIfInBounds_toArray, List.set_cons_zero, List.set_cons_succ]
    refine takeL 5 (v := ?_) rfl (by kernel_rfl) (by kernel_rfl) (by kernel_rfl) (fun _ _ _ h => h) (by rfl) (by assumption) ?_ ?_
    rotate_left
    · (intro w hSw; (try dsimp only at hSw); (try go_split_ands); go_simp <;> with_reducible rfl)
    try simp only [Act.put, List.setIfInBounds_toArray, List.set_cons_zero, List.set_cons_succ]
    refine takeL 7 (v := ?_) rfl (by kernel_rfl) (by kernel_rfl) (by kernel_rfl) (fun _ _ _ h => h) (by rfl) (by assumption) ?_ ?_
    rotate_left
    · (intro w hSw; (try dsimp only at hSw); (try go_split_ands); go_simp <;> with_reducible rfl)
    try simp only [Act.put, List.setIfInBounds_toArray, List.set_cons_zero, List.set_cons_succ]
    refine takeL 8 (v := ?_) rfl (by kernel_rfl) (by kernel_rfl) (by kernel_rfl) (fun _ _ _ h => h) (by rfl) (by assumption) ?_ ?_
    rotate_left
    · (intro w hSw; (try dsimp only at hSw); (try go_split_ands); go_simp <;> with_reducible rfl)
    try simp only [Act.put, List.setIfInBounds_toArray, List.set_cons_zero, List.set_cons_succ]
    refine oneL 9 rfl (by kernel_rfl) (fun K hK => ?_)
    go_simp
    (go_split_ands; obtain ⟨x0, x1, r0, r1⟩ := ‹Ex2 _ _›; go_simp; (try simp only [Result.andThen_ok]); (try go_simp))
    refine hK.out _ _ ?_ (fun hHeld2 => ?_)
    · (try dsimp only)
      ((try go_split_ands); refine ⟨?_, ?_, ?_, ?_, ?_, ?_, ?_, ?_⟩ <;> first | assumption | exact hBd | (exact cellK (by assumption) hb) | (exact Ex2.keep (by assumption) hb) | (exact Ex2.frozen0 (by assumption) (by assumption) hb) | (exact Ex2.frozen1 (by assumption) (by assumption) hb) | (exact Below.trans (by assumption) (hb.mono (Below.size (by assumption)))) | (exact Ex2.set (by assumption) (by assumption) _ _) | (exact Below.setCell (Below.setCell (by assumption) (by simp; omega) _) (by simp; omega) _) | go_simp)
    clear hK K
    try simp only [Act.put, List.setIfInBounds_toArray, List.set_cons_zero, List.set_cons_succ]
    refine wpAnyH_done (by kernel_rfl) ?_ _
    go_wp2_with fail
    (try simp only [Exit.inBlock, Exit.then])
    have hBE := ‹Below w.heap.size w w8›
    refine bodyPost_ret (v := .agg #[.int .i64 c, .int .i64 (IntKind.i64.wrap (M - c))]) ?_ rfl ⟨by rw [hx.out, hy.out], (hBE.setCell (by simp; omega) _).setCell (by simp; omega) _⟩
    simp [results, Try.results36, go_sem, r0, r1]
/-- what holds at the head of each round of Add -/
structure AddW (w wr : World) (k : Nat) (t : AddSt) (v5 v6 : Value) : Prop where
  b : OwnSp wr (w.heap.size + 1) v5 t.b
  a : OwnSp wr (w.heap.size + 1) v6 t.a
  d : ∀ g, v5.ownBlock = some g → v6.ownBlock = some g → False
  s : C2 wr w.heap.size (.int .i64 t.s.1) (.int .i64 t.s.2)
  f : F2 wr w.heap.size
  B : Below w.heap.size w wr
  n : t.b.length + t.a.length ≤ k
  sb : PW t.s
theorem AddW.keep {w wr w1 : World} {k : Nat} {t : AddSt} {v5 v6 : Value} (h : AddW w wr k t v5 v6) (hb : Below wr.heap.size wr w1) : AddW w w1 k t v5 v6 :=
  ⟨h.b.keep hb, h.a.keep hb, h.d, h.s.keep hb, h.f.keep h.s.lt hb, h.B.trans (hb.mono h.B.size), h.n, h.sb⟩
theorem AddW.drew {w wr : World} {k : Nat} {t : AddSt} {v5 v6 : Value} (h : AddW w wr k t v5 v6) : AddW w wr.drew k t v5 v6 := h.keep ((Below.refl _ _).drew)
theorem AddW.drewN {w wr : World} {k : Nat} {t : AddSt} {v5 v6 : Value} (h : AddW w wr k t v5 v6) (n : Nat) : AddW w (wr.drewN n) k t v5 v6 := h.keep (dN (Below.refl _ _) n)
theorem AddW.alloc {w wr : World} {k : Nat} {t : AddSt} {v5 v6 : Value} (h : AddW w wr k t v5 v6) (o : Obj) : AddW w (wr.alloc o) k t v5 v6 := h.keep ((Below.refl _ _).alloc (Nat.le_refl _) _)
theorem AddW.sz {w wr : World} {k : Nat} {t : AddSt} {v5 v6 : Value} (h : AddW w wr k t v5 v6) : w.heap.size + 1 ≤ wr.heap.size := h.s.lt
theorem AddW.far {w wr : World} {k : Nat} {t : AddSt} {v5 v6 : Value} (h : AddW w wr k t v5 v6) : some w.heap.size ≠ v5.ownBlock ∧ some w.heap.size ≠ v6.ownBlock :=
  ⟨fun e => by have := (h.b.lt _ e.symm).1; omega, fun e => by have := (h.a.lt _ e.symm).1; omega⟩
theorem AddW.pushB {w W w2 : World} {k : Nat} {t : AddSt} {v5 v6 v' : Value} {x : Sp} (h : AddW w W k t v5 v6) (hown : OwnSp w2 (w.heap.size + 1) v' (t.b ++ [x])) (hg : W.grownBy w2 v5.ownBlock) (hl : v'.ownBlock = v5.ownBlock ∨ v'.ownBlock = some W.heap.size)
    (hc : t.s.2 < 1 ∨ endW x < t.s.1) : AddW w w2 (k + 1) (addFW t x) v' v6 := by
  unfold addFW
  rw [if_pos hc]
  refine ⟨hown, h.a.kept hg ?_, ?_, grown_c2 h.s hg h.far.1, grown_f2 h.f h.s.lt hg h.far.1, h.B.grown hg h.B.size (fun j hj => by have := (h.b.lt _ hj).1; omega), ?_, h.sb⟩
  · rcases e : v6.ownBlock with _ | g
    · exact .inl rfl
    · exact .inr (fun q => h.d g q.symm e)
  · intro g e5 e6
    rcases hl with hl | hl
    · exact h.d g (hl ▸ e5) e6
    · rw [hl] at e5
      have := (h.a.lt g e6).2
      simp at e5; omega
  · have := h.n; simp only [List.length_append, List.length_singleton]; omega
theorem AddW.pushA {w W w2 : World} {k : Nat} {t : AddSt} {v5 v6 v' : Value} {x : Sp} (h : AddW w W k t v5 v6) (hown : OwnSp w2 (w.heap.size + 1) v' (t.a ++ [x])) (hg : W.grownBy w2 v6.ownBlock) (hl : v'.ownBlock = v6.ownBlock ∨ v'.ownBlock = some W.heap.size)
    (hc : ¬ (t.s.2 < 1 ∨ endW x < t.s.1)) (hc2 : endW t.s < x.1) : AddW w w2 (k + 1) (addFW t x) v5 v' := by
  unfold addFW
  rw [if_neg hc, if_pos hc2]
  refine ⟨h.b.kept hg ?_, hown, ?_, grown_c2 h.s hg h.far.2, grown_f2 h.f h.s.lt hg h.far.2, h.B.grown hg h.B.size (fun j hj => by have := (h.a.lt _ hj).1; omega), ?_, h.sb⟩
  · rcases e : v5.ownBlock with _ | g
    · exact .inl rfl
    · exact .inr (fun q => h.d g e q.symm)
  · intro g e5 e6
    rcases hl with hl | hl
    · exact h.d g e5 (hl ▸ e6)
    · rw [hl] at e6
      have := (h.b.lt g e5).2
      simp at e6; omega
  · have := h.n; simp only [List.length_append, List.length_singleton]; omega
theorem AddW.fin {w W w2 : World} {k : Nat} {t : AddSt} {v5 v6 : Value} (h : AddW w W k t v5 v6) (hg : W.grownBy w2 v5.ownBlock) : OwnSp w2 (w.heap.size + 1) v6 t.a ∧ Below w.heap.size w w2 ∧ w.heap.size + 1 ≤ w2.heap.size := by
  refine ⟨h.a.kept hg ?_, h.B.grown hg h.B.size (fun j hj => by have := (h.b.lt _ hj).1; omega), Nat.le_trans h.sz hg.size⟩
  rcases e : v6.ownBlock with _ | g
  · exact .inl rfl
  · exact .inr (fun q => h.d g q.symm e)
theorem AddW.grow {w W : World} {k : Nat} {t : AddSt} {v5 v6 : Value} {x : Sp} (h : AddW w W k t v5 v6) (hx : PW x) (hc : ¬ (t.s.2 < 1 ∨ endW x < t.s.1)) (hc2 : ¬ endW t.s < x.1) :
    AddW w ((W.setCell ⟨w.heap.size, 0, none⟩ (.int .i64 (bothW t.s x).1)).setCell ⟨w.heap.size, 1, none⟩ (.int .i64 (bothW t.s x).2)) (k + 1) (addFW t x) v5 v6 := by
  unfold addFW
  rw [if_neg hc, if_neg hc2]
  obtain ⟨w9, e9, hC9, hb9⟩ := st2_ex h.s (.int .i64 (bothW t.s x).1) (.int .i64 (bothW t.s x).2)
  rw [← e9]
  refine ⟨?_, ?_, h.d, hC9, ?_, h.B.trans hb9, by have := h.n; simp only []; omega, PW.both h.sb hx⟩
  · rw [e9]; exact (h.b.setFar (by omega) _).setFar (by omega) _
  · rw [e9]; exact (h.a.setFar (by omega) _).setFar (by omega) _
  · rw [e9]; exact ⟨by rw [World.frozen?_setCell, World.frozen?_setCell]; exact h.f.1, by rw [World.frozen?_setCell, World.frozen?_setCell]; exact h.f.2⟩
theorem addAllW_take (l : List Sp) (s : Sp) (k : Nat) (h : k < l.length) : addAllW (l.take (k + 1)) s = addFW (addAllW (l.take k) s) (l.getD k (0, 0)) := by
  rw [List.take_succ_eq_append_getElem h, addAllW_snoc, List.getD_eq_getElem?_getD, List.getElem?_eq_getElem h]
  rfl

set_option maxRecDepth 10000 in
set_option maxHeartbeats 4000000 in
theorem add_wild (v : Value) (l : List Sp) (s : Sp) (w : World) (hl : PI l) (hlen : l.length ≤ 1000) (hs : PW s) (hv : PL w v l) :
    Calls Try.prog 25 #[v, .agg #[.int .i64 s.1, .int .i64 s.2]] w fun e w' => ∃ v', e = .returned v' ∧ OwnSp w' w.heap.size v' (addSW l s) ∧ Below w.heap.size w w' := by
  obtain ⟨n, hn⟩ : ∃ n, l.length = n := ⟨_, rfl⟩
  obtain ⟨A, cap, rfl, hC⟩ := hv.form hn
  have hI := Lib.hid (fun i (hi : i < n) => hl.at i (by omega))
  have hT := Lib.hid (fun i (hi : i < n) => addAllW_take l s i (by omega))
  have hE := Lib.hid (show l.take n = l from by rw [List.take_of_length_le (by omega)])
  replace hC := Lib.hid hC
  have hlen' : n ≤ 1000 := by omega
  clear hl hlen hn
  have kk := C2.new w (.int .i64 s.1) (.int .i64 s.2) (45 : Nat)
  have ff := F2.new w (.int .i64 s.1) (.int .i64 s.2) (45 : Nat)
  have hR0 : AddW w (w.alloc (.cells #[.int .i64 s.1, .int .i64 s.2] (45 : Nat))) 0 ⟨[], [], s⟩ (.slice none 0 0) (.slice none 0 0) :=
    ⟨OwnSp.nil _ _, OwnSp.nil _ _, fun g h => by simp [Value.ownBlock] at h, kk, ff, (Below.refl _ _).alloc (Nat.le_refl _) _, by simp, hs⟩
  clear kk ff
  go_enter Try.func25, Try.ntmps25
  go_wp2_with fail
  go_loopw [5, 6, 11] (fun v5 v6 x wr => ∃ (k : Nat) (t : AddSt), k ≤ n ∧ x = .int .i64 k ∧ Hid (t = addAllW (l.take k) s) ∧ AddW w wr k t v5 v6) (fun _ _ i _ => n + 1 - (intOf i).toNat)
  case atStart => exact ⟨0, ⟨[], [], s⟩, Nat.zero_le _, rfl, rfl, hR0⟩
  case round =>
    obtain ⟨k, t, hk, rfl, hT0, hR⟩ := hrel
    clear hR0
    by_cases hlt : k < n
    · obtain ⟨g, off, rfl, hcap, hg, c0, c1⟩ := hC.out wr k (hR.B) hlt
      have hlt' : (k : Int) < (n : Int) := by omega
      have hx := hI.out k hlt
      have hT1 := Lib.hid (show addFW t (l.getD k (0, 0)) = addAllW (l.take (k + 1)) s from by rw [hT.out k hlt, ← hT0.out])
      generalize l.getD k (0, 0) = x at *
      have hk2 := hR.n
      have htl1 : t.b.length ≤ 1000000 := by omega
      have htl2 : t.a.length ≤ 1000000 := by omega
      clear hk2
      have hsb := hR.sb
      have hRa := hR.alloc (.cells #[.int .i64 x.1, .int .i64 x.2] 45)
      have hx0 := C2.new wr (.int .i64 x.1) (.int .i64 x.2) 45
      have hsz0 := hR.sz
      obtain ⟨x0, x1⟩ := id hx0
      obtain ⟨s0, s1⟩ := id hRa.s
      have hEx := Lib.hid (fun w => end_wild x w)
      have hEs := Lib.hid (fun w => end_wild t.s w)
      have hBo := Lib.hid (fun w => both_wild t.s x w hsb hx)
      have hBd := hRa.B.drew
      have hRd := hRa.drew
      by_cases hA1 : t.s.2 < 1
      · have e1 : decide (t.s.2 < 1) = true := decide_eq_true hA1
        have hcc := Lib.hid (show t.s.2 < 1 ∨ endW x < t.s.1 from .inl hA1)
        clear hA1
        go_wp2_with fail
        go_quiet (fail)
        have hRq : AddW w (World.drewN (wr.alloc (.cells #[.int .i64 x.1, .int .i64 x.2] 45)) nq) k t u5 u6 := hRa.drewN nq
        have hxq : C2 (World.drewN (wr.alloc (.cells #[.int .i64 x.1, .int .i64 x.2] 45)) nq) wr.heap.size (.int .i64 x.1) (.int .i64 x.2) := hx0.drewN nq
        generalize World.drewN (wr.alloc (.cells #[.int .i64 x.1, .int .i64 x.2] 45)) nq = Wq at *
        have hRq2 := hRq.alloc (.cells #[.int .i64 x.1, .int .i64 x.2] (45 : Nat))
        have hxq2 := C2.new Wq (.int .i64 x.1) (.int .i64 x.2) (45 : Nat)
        obtain ⟨v', w2, hrun, ho2, hg2, hl2⟩ := app1 hRq2.b hxq2 hRq2.sz htl1
        have hRn := hRq2.pushB ho2 hg2 hl2 hcc.out
        clear ho2 hg2 hl2 hRq2 hxq2 hRq hRa hRd hR
        obtain ⟨y0, y1⟩ := id hxq
        clear hxq
        go_wp2_with (at_builtin; refine wpList_append_run rfl _ _ 42 rfl _ _ _ rfl rfl hrun ?_)
        clear hrun
        go_wp2_with fail
        go_roundw
        case rel => exact ⟨k + 1, addFW t x, by omega, by go_num, hT1, hRn⟩
        case measure => simp [intOf]; omega
      · have e1 : decide (t.s.2 < 1) = false := decide_eq_false hA1
        have hA2 : 1 ≤ t.s.2 := by omega
        by_cases hA3 : endW x < t.s.1
        · have hcc := Lib.hid (show t.s.2 < 1 ∨ endW x < t.s.1 from .inr hA3)
          have e2 : decide (endW x < t.s.1) = true := decide_eq_true hA3
          clear hA1
          go_wp2_with fail
          go_region_held3 (fun w' => w'.cell? ⟨wr.heap.size, 0, none⟩ = some (.int .i64 x.1) ∧ w'.cell? ⟨wr.heap.size, 1, none⟩ = some (.int .i64 x.2) ∧ w'.cell? ⟨w.heap.size, 0, none⟩ = some (.int .i64 t.s.1) ∧ w'.cell? ⟨w.heap.size, 1, none⟩ = some (.int .i64 t.s.2) ∧ AddW w w' k t u5 u6)
            (((try go_split_ands); refine ⟨?_, ?_, ?_, ?_, ?_⟩ <;> first | assumption | exact hRd | (exact AddW.keep (by assumption) hb) | (exact cellK (by assumption) hb) | (exact frozK (by assumption) (by assumption) hb) | (exact Below.trans (by assumption) (hb.mono (Below.size (by assumption))))))
            (((try go_split_ands); first | (go_at_call 35; (with_reducible refine (hEx.out _).mono ?_); rintro e w8 ⟨rfl, hb⟩)))
          go_split_ands
          have hRq := ‹AddW w w8 _ _ _ _›
          have hxq : C2 w8 wr.heap.size (.int .i64 x.1) (.int .i64 x.2) := ⟨by assumption, by assumption⟩
          have hRq2 := hRq.alloc (.cells #[.int .i64 x.1, .int .i64 x.2] (45 : Nat))
          have hxq2 := C2.new w8 (.int .i64 x.1) (.int .i64 x.2) (45 : Nat)
          obtain ⟨v', w2, hrun, ho2, hg2, hl2⟩ := app1 hRq2.b hxq2 hRq2.sz htl1
          have hRn := hRq2.pushB ho2 hg2 hl2 hcc.out
          clear ho2 hg2 hl2 hRq2 hxq2 hRq hRa hRd hR
          obtain ⟨y0, y1⟩ := id hxq
          clear hxq
          go_wp2_with (at_builtin; refine wpList_append_run rfl _ _ 42 rfl _ _ _ rfl rfl hrun ?_)
          clear hrun
          go_wp2_with fail
          go_roundw
          case rel => exact ⟨k + 1, addFW t x, by omega, by go_num, hT1, hRn⟩
          case measure => simp [intOf]; omega
        · have hcc := Lib.hid (show ¬ (t.s.2 < 1 ∨ endW x < t.s.1) from fun h => h.elim (fun h => hA1 h) (fun h => hA3 h))
          have e2 : decide (endW x < t.s.1) = false := decide_eq_false hA3
          clear hA1
          by_cases hA4 : endW t.s < x.1
          · have e3 : decide (endW t.s < x.1) = true := decide_eq_true hA4
            have hcc2 := Lib.hid hA4
            go_wp2_with fail
            go_region_held3 (fun w' => w'.cell? ⟨wr.heap.size, 0, none⟩ = some (.int .i64 x.1) ∧ w'.cell? ⟨wr.heap.size, 1, none⟩ = some (.int .i64 x.2) ∧ w'.cell? ⟨w.heap.size, 0, none⟩ = some (.int .i64 t.s.1) ∧ w'.cell? ⟨w.heap.size, 1, none⟩ = some (.int .i64 t.s.2) ∧ AddW w w' k t u5 u6)
              (((try go_split_ands); refine ⟨?_, ?_, ?_, ?_, ?_⟩ <;> first | assumption | exact hRd | (exact AddW.keep (by assumption) hb) | (exact cellK (by assumption) hb) | (exact frozK (by assumption) (by assumption) hb) | (exact Below.trans (by assumption) (hb.mono (Below.size (by assumption))))))
              (((try go_split_ands); first | (go_at_call 35; (with_reducible refine (hEx.out _).mono ?_); rintro e w8 ⟨rfl, hb⟩)))
            go_split_ands
            have hRq1 := ‹AddW w w8 _ _ _ _›
            have hRe := hRq1.drew
            go_wp2_with fail
            go_region_held3 (fun w' => w'.cell? ⟨wr.heap.size, 0, none⟩ = some (.int .i64 x.1) ∧ w'.cell? ⟨wr.heap.size, 1, none⟩ = some (.int .i64 x.2) ∧ w'.cell? ⟨w.heap.size, 0, none⟩ = some (.int .i64 t.s.1) ∧ w'.cell? ⟨w.heap.size, 1, none⟩ = some (.int .i64 t.s.2) ∧ AddW w w' k t u5 u6)
              (((try go_split_ands); refine ⟨?_, ?_, ?_, ?_, ?_⟩ <;> first | assumption | exact hRe | (exact AddW.keep (by assumption) hb) | (exact cellK (by assumption) hb) | (exact frozK (by assumption) (by assumption) hb) | (exact Below.trans (by assumption) (hb.mono (Below.size (by assumption))))))
              (((try go_split_ands); first | (go_at_call 35; (with_reducible refine (hEs.out _).mono ?_); rintro e w8 ⟨rfl, hb⟩)))
            go_split_ands
            have hRq := ‹AddW w w8 _ _ _ _›
            have hxq : C2 w8 wr.heap.size (.int .i64 x.1) (.int .i64 x.2) := ⟨by assumption, by assumption⟩
            clear hRq1 hRe
            have hRq2 := hRq.alloc (.cells #[.int .i64 x.1, .int .i64 x.2] (45 : Nat))
            have hxq2 := C2.new w8 (.int .i64 x.1) (.int .i64 x.2) (45 : Nat)
            obtain ⟨v', w2, hrun, ho2, hg2, hl2⟩ := app1 hRq2.a hxq2 hRq2.sz htl2
            have hRn := hRq2.pushA ho2 hg2 hl2 hcc.out hcc2.out
            clear ho2 hg2 hl2 hRq2 hxq2 hRq hRa hRd hR
            obtain ⟨y0, y1⟩ := id hxq
            clear hxq
            go_wp2_with (at_builtin; refine wpList_append_run rfl _ _ 42 rfl _ _ _ rfl rfl hrun ?_)
            clear hrun
            go_wp2_with fail
            go_roundw
            case rel => exact ⟨k + 1, addFW t x, by omega, by go_num, hT1, hRn⟩
            case measure => simp [intOf]; omega
          · have e3 : decide (endW t.s < x.1) = false := decide_eq_false hA4
            have hcc2 := Lib.hid hA4
            clear hA4
            go_wp2_with fail
            go_region_held3 (fun w' => w'.cell? ⟨wr.heap.size, 0, none⟩ = some (.int .i64 x.1) ∧ w'.cell? ⟨wr.heap.size, 1, none⟩ = some (.int .i64 x.2) ∧ w'.cell? ⟨w.heap.size, 0, none⟩ = some (.int .i64 t.s.1) ∧ w'.cell? ⟨w.heap.size, 1, none⟩ = some (.int .i64 t.s.2) ∧ AddW w w' k t u5 u6)
              (((try go_split_ands); refine ⟨?_, ?_, ?_, ?_, ?_⟩ <;> first | assumption | exact hRd | (exact AddW.keep (by assumption) hb) | (exact cellK (by assumption) hb) | (exact frozK (by assumption) (by assumption) hb) | (exact Below.trans (by assumption) (hb.mono (Below.size (by assumption))))))
              (((try go_split_ands); first | (go_at_call 35; (with_reducible refine (hEx.out _).mono ?_); rintro e w8 ⟨rfl, hb⟩)))
            go_split_ands
            have hRq1 := ‹AddW w w8 _ _ _ _›
            have hRe := hRq1.drew
            go_wp2_with fail
            go_region_held3 (fun w' => w'.cell? ⟨wr.heap.size, 0, none⟩ = some (.int .i64 x.1) ∧ w'.cell? ⟨wr.heap.size, 1, none⟩ = some (.int .i64 x.2) ∧ w'.cell? ⟨w.heap.size, 0, none⟩ = some (.int .i64 t.s.1) ∧ w'.cell? ⟨w.heap.size, 1, none⟩ = some (.int .i64 t.s.2) ∧ AddW w w' k t u5 u6)
              (((try go_split_ands); refine ⟨?_, ?_, ?_, ?_, ?_⟩ <;> first | assumption | exact hRe | (exact AddW.keep (by assumption) hb) | (exact cellK (by assumption) hb) | (exact frozK (by assumption) (by assumption) hb) | (exact Below.trans (by assumption) (hb.mono (Below.size (by assumption))))))
              (((try go_split_ands); first | (go_at_call 35; (with_reducible refine (hEs.out _).mono ?_); rintro e w8 ⟨rfl, hb⟩)))
            go_split_ands
            have hRq := ‹AddW w w8 _ _ _ _›
            clear hRq1 hRe
            go_wp2_with fail
            refine (hBo.out _).mono ?_
            rintro e w9 ⟨rfl, hb9⟩
            have hR9 := hRq.keep hb9
            obtain ⟨z0, z1⟩ := id hR9.s
            obtain ⟨f0, f1⟩ := id hR9.f
            have hRn := hR9.grow hx hcc.out (by have := hcc2.out; omega)
            generalize (bothW t.s x).1 = B1 at *
            generalize (bothW t.s x).2 = B2 at *
            clear hb9 hRq hRa hRd hR hR9
            go_wp2_with fail
            go_roundw
            case rel => exact ⟨k + 1, addFW t x, by omega, by go_num, hT1, hRn⟩
            case measure => simp [intOf]; omega
    · obtain rfl : k = n := by omega
      have hF1 := Lib.hid (show addSW l s = (t.b ++ if t.s.2 < 1 then [] else [t.s]) ++ t.a from by rw [hT0.out, hE.out]; rfl)
      have hk2 := hR.n
      have htl1 : t.b.length ≤ 1000000 := by omega
      have htl2 : t.a.length ≤ 1000000 := by omega
      have htl3 : t.b.length ≤ 1000 := by omega
      clear hk2
      obtain ⟨s0, s1⟩ := id hR.s
      by_cases hm : 1 ≤ t.s.2
      · have hF2 := Lib.hid (show addSW l s = (t.b ++ [t.s]) ++ t.a from by rw [hF1.out, if_neg (by omega)])
        have hR1 := hR.alloc (.cells #[.int .i64 t.s.1, .int .i64 t.s.2] (45 : Nat))
        have hx1 := C2.new wr (.int .i64 t.s.1) (.int .i64 t.s.2) (45 : Nat)
        obtain ⟨v', w2, hrun, ho2, hg2, hl2⟩ := app1 hR1.b hx1 hR1.sz htl1
        obtain ⟨hA2, hB2, hz2⟩ := hR1.fin hg2
        obtain ⟨v3, w3, hrun3, ho3, hg3, hl3⟩ := app2 ho2 hA2 hz2 (by simp; omega) htl2
        have hB3 := hB2.grown hg3 hB2.size (fun j hj => by have := (ho2.lt _ hj).1; omega)
        clear hR1 hx1 ho2 hg2 hl2 hA2 hB2 hz2 hg3 hl3
        go_wp2_with (first | (at_builtin; refine wpList_append_run rfl _ _ 42 rfl _ _ _ rfl rfl hrun ?_) | (at_builtin; refine wpList_append_run rfl _ _ 42 rfl _ _ _ rfl rfl hrun3 ?_))
        go_ret
        exact ⟨_, rfl, by rw [hF2.out]; exact ho3.mono (by omega), hB3⟩
      · have hF2 := Lib.hid (show addSW l s = t.b ++ t.a from by rw [hF1.out, if_pos (by omega)]; simp)
        have hm2 : t.s.2 < 1 := by omega
        obtain ⟨v3, w3, hrun3, ho3, hg3, hl3⟩ := app2 hR.b hR.a hR.sz htl1 htl2
        obtain ⟨_, hB3, _⟩ := hR.fin hg3
        clear hg3 hl3 hm
        go_wp2_with (at_builtin; refine wpList_append_run rfl _ _ 42 rfl _ _ _ rfl rfl hrun3 ?_)
        go_ret
        exact ⟨_, rfl, by rw [hF2.out]; exact ho3.mono (by omega), hB3⟩
end Go.Proofs.Ythklgmpphfdfoaa
