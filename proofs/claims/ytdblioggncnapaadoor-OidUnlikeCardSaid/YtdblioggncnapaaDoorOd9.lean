/-
  Package oid: OidSigns.
-/
import Derived.Test.YtdblioggncnapaaDoorOd8
import Derived.Test.YtdblioggncnapaaDoorOdF
set_option linter.unusedVariables false
set_option linter.unusedSimpArgs false
set_option maxRecDepth 100000
namespace Go.Proofs.YtdblioggncnapaaDoor
open Go.RowKit Go.Lib
theorem C2.kl {w : World} {g x n : Nat} (h : C2 w g (.int .u64 x) (.int .u64 n)) : KL .u64 w (.slice (some ⟨g, 0, none⟩) 2 2) [x, n] := by
  refine ⟨_, 2, rfl, fun _ => ⟨g, 0, rfl, h.lt, by simp, fun i hi => ?_⟩⟩
  match i, hi with
  | 0, _ => exact h.1
  | 1, _ => exact h.2
theorem KL.alloc {w : World} {v : Value} {l : List Nat} (h : KL .u64 w v l) (o : Obj) : KL .u64 (w.alloc o) v l := h.keep ((Below.refl _ _).alloc (Nat.le_refl _) _)
theorem calls_at8 {P : Program} {f : FuncId} {v v' : Value} {w : World} {Q : Ending → World → Prop} (h : Calls P f #[v] w Q) (e : v = v') : Calls P f #[v'] w Q := e ▸ h
/-- Decode, by what it is told of the words -/
theorem dec_no {v : Value} {l : List Nat} {w : World} (hv : KL .u64 w v l) (h64 : ∀ x ∈ l, x < 18446744073709551616) (h : decH l = none) :
    Calls Tryd.prog 11 #[v] w fun e w' => e = .returned (.tuple #[.agg #[.int .i64 0, .int .i64 0, .int .u64 0], .bool false]) ∧ Below w.heap.size w w' := by
  have c := decode_any v l w hv h64
  rw [h] at c; exact c
theorem dec_yes {v : Value} {l : List Nat} {w : World} {t s n : Nat} (hv : KL .u64 w v l) (h64 : ∀ x ∈ l, x < 18446744073709551616) (h : decH l = some (t, s, n)) :
    Calls Tryd.prog 11 #[v] w fun e w' => e = .returned (.tuple #[.agg #[.int .i64 (t : Nat), .int .i64 (s : Nat), .int .u64 (n : Nat)], .bool true]) ∧ Below w.heap.size w w' := by
  have c := decode_any v l w hv h64
  rw [h] at c; exact c
set_option maxHeartbeats 1000000 in
theorem oidSigns_no (t s n b : Int) (w : World) (ht : Tb w) (hn : 0 ≤ n) (h : hdB t s n = false) :
    Calls Tryd.prog 6 #[nV t s n, .int .u8 b] w fun e w' => e = .returned (.bool true) ∧ Below w.heap.size w w' := by
  have hE := Lib.hid (fun w => encode_no t s n w hn h)
  have hC := C3.new w (.int .i64 t) (.int .i64 s) (.int .u64 n) 24
  have hbA : Below w.heap.size w (w.alloc (.cells #[.int .i64 t, .int .i64 s, .int .u64 n] 24)) := (Below.refl _ _).alloc (Nat.le_refl _) _
  have hT := ht.next hbA
  unfold nV at *
  clear h hn
  go_enter Tryd.func6, Tryd.ntmps6
  go_wp2_with fail
  refine (awake_any _ hT).mono ?_
  rintro e w1 ⟨rfl, hb1⟩
  obtain ⟨d0, d1, d2⟩ := hC.keep hb1
  have hB1 : Below w.heap.size w w1 := hbA.trans (hb1.mono (by have := hbA.size; omega))
  clear hC hb1 hT
  go_wp2_with fail
  refine (hE.out _).mono ?_
  rintro e w2 ⟨rfl, hb2⟩
  have hB2 : Below w.heap.size w w2 := hB1.trans (hb2.mono hB1.size)
  clear d0 d1 d2 hB1 hb2 hbA
  go_wp2_with fail
  go_ret
  exact ⟨rfl, hB2⟩
set_option maxHeartbeats 600000 in
theorem oidSigns_yes (t s n b : Nat) (w : World) (ht : Tb w) (hn64 : n < 18446744073709551616) (hb : b < 256) (h : hdB t s n = true) :
    Calls Tryd.prog 6 #[nV t s n, .int .u8 b] w fun e w' => e = .returned (.bool true) ∧ Below w.heap.size w w' := by
  have hE := Lib.hid (fun w => encode_yes t s n w (by omega) h)
  have hC := C3.new w (.int .i64 (t : Nat)) (.int .i64 (s : Nat)) (.int .u64 (n : Nat)) 24
  have hbA : Below w.heap.size w (w.alloc (.cells #[.int .i64 (t : Nat), .int .i64 (s : Nat), .int .u64 (n : Nat)] 24)) := (Below.refl _ _).alloc (Nat.le_refl _) _
  have hT := ht.next hbA
  have hh := hd_t.1 h
  have hx64 : hdW t s < 18446744073709551616 := hdW_lt (by omega) (by omega)
  have hbk := hdW_back (t := t) (s := s) (by omega) (by omega)
  have hsx := (hdW_is (hdW t s)).1 (by rw [hbk.1, hbk.2])
  obtain ⟨x, hx⟩ : ∃ x : Nat, hdW t s = x := ⟨_, rfl⟩
  rw [hx] at hE hx64 hbk hsx
  obtain ⟨hfl, hz64, hzne⟩ := flip8 x b hx64
  obtain ⟨z, hz⟩ : ∃ z : Nat, x ^^^ 2 ^ (32 + b % 32) = z := ⟨_, rfl⟩
  rw [hz] at hfl hz64 hzne
  have h1x := Lib.hid (show ∀ y ∈ [z, n], y < 18446744073709551616 from by simp; omega)
  have h2x := Lib.hid (show ∀ y ∈ [x, 0], y < 18446744073709551616 from by simp; omega)
  have h3x := Lib.hid (show ∀ y ∈ [x], y < 18446744073709551616 from by simp; omega)
  have h4x := Lib.hid (show ∀ y ∈ [x, n, z], y < 18446744073709551616 from by simp; omega)
  have h1 : decH [z, n] = none := by
    show (if _ then none else if (hdB (z % 65536 : Nat) (z / 65536 % 65536 : Nat) (n : Nat) && decide (z / 4294967296 = 4200005632)) = true then some _ else none) = none
    rw [if_neg (by simp), decide_eq_false (by omega), Bool.and_false, if_neg (by simp)]
  have h2 : decH [x, 0] = none := by
    show (if _ then none else if (hdB (x % 65536 : Nat) (x / 65536 % 65536 : Nat) ((0 : Nat) : Int) && decide (x / 4294967296 = 4200005632)) = true then some _ else none) = none
    rw [if_neg (by simp), hd_f (by omega), Bool.false_and, if_neg (by simp)]
  have h3 : decH [x] = none := by unfold decH; rw [if_pos (by simp)]
  have h4 : decH [x, n, z] = some (t, s, n) := by
    show (if _ then none else if (hdB (x % 65536 : Nat) (x / 65536 % 65536 : Nat) (n : Nat) && decide (x / 4294967296 = 4200005632)) = true then some (x % 65536, x / 65536 % 65536, n) else none) = some (t, s, n)
    rw [if_neg (by simp), hbk.1, hbk.2, h, decide_eq_true hsx]; rfl
  have hA1 := Lib.hid (fun (w : World) => show Calls Tryd.prog 11 #[.slice (some ⟨w.heap.size, 0, none⟩) 2 2] (w.alloc (.cells #[.int .u64 (z : Nat), .int .u64 (n : Nat)] (22 : Nat))) (fun e w' => e = .returned (.tuple #[.agg #[.int .i64 0, .int .i64 0, .int .u64 0], .bool false]) ∧ Below (w.alloc (.cells #[.int .u64 (z : Nat), .int .u64 (n : Nat)] (22 : Nat))).heap.size (w.alloc (.cells #[.int .u64 (z : Nat), .int .u64 (n : Nat)] (22 : Nat))) w') from dec_no (KL.lit w [z, n] (by simp)) h1x.out h1)
  have hA2 := Lib.hid (fun (w : World) => show Calls Tryd.prog 11 #[.slice (some ⟨w.heap.size, 0, none⟩) 2 2] (w.alloc (.cells #[.int .u64 (x : Nat), .int .u64 0] (22 : Nat))) (fun e w' => e = .returned (.tuple #[.agg #[.int .i64 0, .int .i64 0, .int .u64 0], .bool false]) ∧ Below (w.alloc (.cells #[.int .u64 (x : Nat), .int .u64 0] (22 : Nat))).heap.size (w.alloc (.cells #[.int .u64 (x : Nat), .int .u64 0] (22 : Nat))) w') from dec_no (KL.lit w [x, 0] (by simp)) h2x.out h2)
  have hA3 := Lib.hid (fun (w : World) (g : Nat) (hC : C2 w g (.int .u64 x) (.int .u64 n)) => show Calls Tryd.prog 11 #[.slice (some ⟨g, 0, none⟩) 1 2] w (fun e w' => e = .returned (.tuple #[.agg #[.int .i64 0, .int .i64 0, .int .u64 0], .bool false]) ∧ Below w.heap.size w w') from dec_no (hC.kl.take 1 (by simp)) h3x.out h3)
  unfold nV at *
  clear h hh hx hz hbk hsx hzne h1 h2 h3
  go_enter Tryd.func6, Tryd.ntmps6
  go_wp2_with fail
  refine (awake_any _ hT).mono ?_
  rintro e w1 ⟨rfl, hb1⟩
  obtain ⟨d0, d1, d2⟩ := hC.keep hb1
  have hB1 : Below w.heap.size w w1 := hbA.trans (hb1.mono (by have := hbA.size; omega))
  clear hC hb1 hT
  go_wp2_with fail
  refine (hE.out _).mono ?_
  rintro e w2 ⟨g, rfl, hg, hC2, hb2⟩
  have hB2 : Below w.heap.size w w2 := hB1.trans (hb2.mono hB1.size)
  clear d0 d1 d2 hB1 hb2 hbA
  obtain ⟨c0, c1⟩ := id hC2
  go_wp2_with fail
  refine (hA1.out _).mono ?_
  rintro e w3 ⟨rfl, hb3⟩
  have hB3 : Below w.heap.size w w3 := (hB2.alloc hB2.size _).trans (hb3.mono (by have := hB2.size; simp; omega))
  replace hC2 := (hC2.keep ((Below.refl _ _).alloc (Nat.le_refl _) _)).keep hb3
  clear c0 c1 hB2 hb3
  obtain ⟨c0, c1⟩ := id hC2
  have hz3 := hB3.size
  have hgl := hC2.lt
  have hB3' : Below w.heap.size w (w3.alloc (.cells #[.int .i64 0, .int .i64 0, .int .u64 0] (24 : Nat))) := hB3.alloc hz3 _
  have hC3 := hC2.keep ((Below.refl w3.heap.size w3).alloc (Nat.le_refl _) (.cells #[.int .i64 0, .int .i64 0, .int .u64 0] (24 : Nat)))
  clear c0 c1 hC2
  obtain ⟨c0, c1⟩ := id hC3
  go_wp2_with fail
  refine (calls_at8 (hA2.out (w3.alloc (.cells #[.int .i64 0, .int .i64 0, .int .u64 0] (24 : Nat)))) (by simp only [World.size_alloc])).mono ?_
  rintro e w4 ⟨rfl, hb4⟩
  have hB4 : Below w.heap.size w w4 := (hB3'.alloc hB3'.size _).trans (hb4.mono (by have := hB3'.size; simp at this ⊢; omega))
  have hC4 := (hC3.keep ((Below.refl _ _).alloc (Nat.le_refl _) _)).keep hb4
  clear c0 c1 hC3 hb4 hB3' hgl hz3 hB3
  have hz4 := hB4.size
  have hgl := hC4.lt
  have hB4' : Below w.heap.size w (w4.alloc (.cells #[.int .i64 0, .int .i64 0, .int .u64 0] (24 : Nat))) := hB4.alloc hz4 _
  have hC5 := hC4.keep ((Below.refl w4.heap.size w4).alloc (Nat.le_refl _) (.cells #[.int .i64 0, .int .i64 0, .int .u64 0] (24 : Nat)))
  clear hC4
  obtain ⟨c0, c1⟩ := id hC5
  go_wp2_with fail
  refine (hA3.out _ _ hC5).mono ?_
  rintro e w5 ⟨rfl, hb5⟩
  have hB5 : Below w.heap.size w w5 := hB4'.trans (hb5.mono hB4'.size)
  have hC6 := hC5.keep hb5
  clear c0 c1 hC5 hb5 hB4' hgl hz4 hB4
  have hz5 := hB5.size
  have hgl := hC6.lt
  have hB5' : Below w.heap.size w (w5.alloc (.cells #[.int .i64 0, .int .i64 0, .int .u64 0] (24 : Nat))) := hB5.alloc hz5 _
  have hC7 := hC6.keep ((Below.refl w5.heap.size w5).alloc (Nat.le_refl _) (.cells #[.int .i64 0, .int .i64 0, .int .u64 0] (24 : Nat)))
  clear hC6
  obtain ⟨W, hW⟩ : ∃ W : World, w5.alloc (.cells #[.int .i64 0, .int .i64 0, .int .u64 0] (24 : Nat)) = W := ⟨_, rfl⟩
  rw [hW] at hC7 hB5'
  obtain ⟨c0, c1⟩ := id hC7
  have hS0 : Below W.heap.size W W.drew := (Below.refl W.heap.size W).drew
  have hgW := hC7.lt
  have hBW := hB5'
  replace hW := Lib.hid hW
  go_wp2_with fail
  rw [hW.out]
  clear hW
  refine wp_region_held_drew (S := (fun w' => Below W.heap.size W w')) (by kernel_rfl) ?_ (fun hHeld => ?_)
  · (try dsimp only)
    (first | exact hS0 | exact hKp | go_grown)
  refine takeL 0 (v := ?_) rfl (by kernel_rfl) (by kernel_rfl) (by kernel_rfl) (fun _ _ _ h => h) (by rfl) (by assumption) ?_ ?_
  rotate_left
  · (intro w hSw; (try dsimp only at hSw); have p0 := cellB c0 hSw hgW; have p1 := cellB c1 hSw hgW; go_simp <;> with_reducible rfl)
  try simp only [Act.put, List.setIfInBounds_toArray, List.set_cons_zero, List.set_cons_succ]
  refine takeL 1 (v := ?_) rfl (by kernel_rfl) (by kernel_rfl) (by kernel_rfl) (fun _ _ _ h => h) (by rfl) (by assumption) ?_ ?_
  rotate_left
  · (intro w hSw; (try dsimp only at hSw); have p0 := cellB c0 hSw hgW; have p1 := cellB c1 hSw hgW; go_simp <;> with_reducible rfl)
  try simp only [Act.put, List.setIfInBounds_toArray, List.set_cons_zero, List.set_cons_succ]
  refine takeL 2 (v := ?_) rfl (by kernel_rfl) (by kernel_rfl) (by kernel_rfl) (fun _ _ _ h => h) (by rfl) (by assumption) ?_ ?_
  rotate_left
  · (intro w hSw; (try dsimp only at hSw); have p0 := cellB c0 hSw hgW; have p1 := cellB c1 hSw hgW; go_simp <;> with_reducible rfl)
  try simp only [Act.put, List.setIfInBounds_toArray, List.set_cons_zero, List.set_cons_succ]
  refine takeL 3 (v := ?_) rfl (by kernel_rfl) (by kernel_rfl) (by kernel_rfl) (fun _ _ _ h => h) (by rfl) (by assumption) ?_ ?_
  rotate_left
  · (intro w hSw; (try dsimp only at hSw); have p0 := cellB c0 hSw hgW; have p1 := cellB c1 hSw hgW; go_simp <;> with_reducible rfl)
  try simp only [Act.put, List.setIfInBounds_toArray, List.set_cons_zero, List.set_cons_succ]
  refine takeL 4 (v := ?_) rfl (by kernel_rfl) (by kernel_rfl) (by kernel_rfl) (fun _ _ _ h => h) (by rfl) (by assumption) ?_ ?_
  rotate_left
  · (intro w hSw; (try dsimp only at hSw); have p0 := cellB c0 hSw hgW; have p1 := cellB c1 hSw hgW; go_simp <;> with_reducible rfl)
  try simp only [Act.put, List.setIfInBounds_toArray, List.set_cons_zero, List.set_cons_succ]
  refine takeL 5 (v := ?_) rfl (by kernel_rfl) (by kernel_rfl) (by kernel_rfl) (fun _ _ _ h => h) (by rfl) (by assumption) ?_ ?_
  rotate_left
  · (intro w hSw; (try dsimp only at hSw); have p0 := cellB c0 hSw hgW; have p1 := cellB c1 hSw hgW; go_simp <;> with_reducible rfl)
  try simp only [Act.put, List.setIfInBounds_toArray, List.set_cons_zero, List.set_cons_succ]
  refine takeL 6 (v := ?_) rfl (by kernel_rfl) (by kernel_rfl) (by kernel_rfl) (fun _ _ _ h => h) (by rfl) (by assumption) ?_ ?_
  rotate_left
  · (intro w hSw; (try dsimp only at hSw); have p0 := cellB c0 hSw hgW; have p1 := cellB c1 hSw hgW; go_simp <;> with_reducible rfl)
  try simp only [Act.put, List.setIfInBounds_toArray, List.set_cons_zero, List.set_cons_succ]
  refine twoL 7 12 rfl rfl (by kernel_rfl) (fun K hK => ?_) (fun K hK => ?_)
  · go_simp
    refine hK.out _ _ ?_ (fun hHeld2 => ?_)
    · (try dsimp only)
      (first | exact hS0 | exact hKp | go_grown)
    clear hK K hHeld
    have hHeld := hHeld2
    clear hHeld2
    try simp only [Act.put, List.setIfInBounds_toArray, List.set_cons_zero, List.set_cons_succ]
    refine twoL 8 12 rfl rfl (by kernel_rfl) (fun K hK => ?_) (fun K hK => ?_)
    · go_simp
      (go_at_call 11; refine (calls_at8 (dec_yes (KL.lit (W.drew) [x, n, z] (by simp)) h4x.out h4) (by simp [World.size_alloc, World.size_drew])).mono ?_)
      rintro e w8 ⟨rfl, hb⟩
      have hKp : Below W.heap.size W w8 := (show Below W.heap.size W ((W.drew).alloc (.cells #[.int .u64 (x : Nat), .int .u64 (n : Nat), .int .u64 (z : Nat)] (22 : Nat))) by go_grown).trans (hb.mono (by simp <;> omega))
      have hS8 : W.heap.size ≤ w8.heap.size := hKp.size
      clear hb
      refine hK.out _ _ ?_ (fun hHeld2 => ?_)
      · (try dsimp only)
        (first | exact hS0 | exact hKp | go_grown)
      clear hK K hHeld
      have hHeld := hHeld2
      clear hHeld2
      try simp only [Act.put, List.setIfInBounds_toArray, List.set_cons_zero, List.set_cons_succ]
      refine takeL 9 (v := ?_) rfl (by kernel_rfl) (by kernel_rfl) (by kernel_rfl) (fun _ _ _ h => h) (by rfl) (by assumption) ?_ ?_
      rotate_left
      · (intro w hSw; (try dsimp only at hSw); have p0 := cellB c0 hSw hgW; have p1 := cellB c1 hSw hgW; go_simp <;> with_reducible rfl)
      try simp only [Act.put, List.setIfInBounds_toArray, List.set_cons_zero, List.set_cons_succ]
      refine takeL 10 (v := ?_) rfl (by kernel_rfl) (by kernel_rfl) (by kernel_rfl) (fun _ _ _ h => h) (by rfl) (by assumption) ?_ ?_
      rotate_left
      · (intro w hSw; (try dsimp only at hSw); have p0 := cellB c0 hSw hgW; have p1 := cellB c1 hSw hgW; go_simp <;> with_reducible rfl)
      try simp only [Act.put, List.setIfInBounds_toArray, List.set_cons_zero, List.set_cons_succ]
      refine takeL 11 (v := ?_) rfl (by kernel_rfl) (by kernel_rfl) (by kernel_rfl) (fun _ _ _ h => h) (by rfl) (by assumption) ?_ ?_
      rotate_left
      · (intro w hSw; (try dsimp only at hSw); have p0 := cellB c0 hSw hgW; have p1 := cellB c1 hSw hgW; go_simp <;> with_reducible rfl)
      try simp only [Act.put, List.setIfInBounds_toArray, List.set_cons_zero, List.set_cons_succ]
      refine oneL 12 rfl (by kernel_rfl) (fun K hK => ?_)
      go_simp
      skip
      refine hK.out _ _ ?_ (fun hHeld2 => ?_)
      · (try dsimp only)
        (first | exact hS0 | exact hKp | go_grown)
      clear hK K hHeld
      have hHeld := hHeld2
      clear hHeld2
      try simp only [Act.put, List.setIfInBounds_toArray, List.set_cons_zero, List.set_cons_succ]
      refine oneL 13 rfl (by kernel_rfl) (fun K hK => ?_)
      go_simp
      skip
      refine hK.out _ _ ?_ (fun hHeld2 => ?_)
      · (try dsimp only)
        (first | exact hS0 | exact hKp | go_grown)
      clear hK K hHeld
      have hHeld := hHeld2
      clear hHeld2
      try simp only [Act.put, List.setIfInBounds_toArray, List.set_cons_zero, List.set_cons_succ]
      refine takeL 14 (v := ?_) rfl (by kernel_rfl) (by kernel_rfl) (by kernel_rfl) (fun _ _ _ h => h) (by rfl) (by assumption) ?_ ?_
      rotate_left
      · (intro w hSw; (try dsimp only at hSw); have p0 := cellB c0 hSw hgW; have p1 := cellB c1 hSw hgW; go_simp <;> with_reducible rfl)
      try simp only [Act.put, List.setIfInBounds_toArray, List.set_cons_zero, List.set_cons_succ]
      refine wpAnyH_done (by kernel_rfl) ?_ _
      (try simp only [Exit.inBlock, Exit.then])
      go_wp2_with fail
      (try simp only [Exit.inBlock, Exit.then])
      go_ret
      exact ⟨rfl, hBW.trans (hHeld.mono hBW.size)⟩
    · go_simp
      refine hK.out _ _ ?_ (fun hHeld2 => ?_)
      · (try dsimp only)
        (first | exact hS0 | exact hKp | go_grown)
      clear hK K hHeld
      have hHeld := hHeld2
      clear hHeld2
      try simp only [Act.put, List.setIfInBounds_toArray, List.set_cons_zero, List.set_cons_succ]
      refine oneL 8 rfl (by kernel_rfl) (fun K hK => ?_)
      go_simp
      (go_at_call 11; refine (calls_at8 (dec_yes ((KL.lit (W.drew) [x, n, z] (by simp)).alloc (.cells #[.int .i64 0, .int .i64 0, .int .u64 0] (24 : Nat))) h4x.out h4) (by simp [World.size_alloc, World.size_drew])).mono ?_)
      rintro e w8 ⟨rfl, hb⟩
      have hKp : Below W.heap.size W w8 := (show Below W.heap.size W (((W.drew).alloc (.cells #[.int .u64 (x : Nat), .int .u64 (n : Nat), .int .u64 (z : Nat)] (22 : Nat))).alloc (.cells #[.int .i64 0, .int .i64 0, .int .u64 0] (24 : Nat))) by go_grown).trans (hb.mono (by simp <;> omega))
      have hS8 : W.heap.size ≤ w8.heap.size := hKp.size
      have hZc := (C3.new ((W.drew).alloc (.cells #[.int .u64 (x : Nat), .int .u64 (n : Nat), .int .u64 (z : Nat)] (22 : Nat))) (.int .i64 0) (.int .i64 0) (.int .u64 0) (24 : Nat)).keep hb
      have hZf := (F3.new ((W.drew).alloc (.cells #[.int .u64 (x : Nat), .int .u64 (n : Nat), .int .u64 (z : Nat)] (22 : Nat))) (.int .i64 0) (.int .i64 0) (.int .u64 0) (24 : Nat)).keep (by simp) hb
      simp only [World.size_alloc, World.size_drew] at hZc hZf
      obtain ⟨z0, z1, z2⟩ := hZc
      obtain ⟨f0, f1, f2⟩ := hZf
      clear hb
      refine hK.out _ _ ?_ (fun hHeld2 => ?_)
      · (try dsimp only)
        (first | exact hS0 | exact hKp | go_grown)
      clear hK K hHeld
      have hHeld := hHeld2
      clear hHeld2
      try simp only [Act.put, List.setIfInBounds_toArray, List.set_cons_zero, List.set_cons_succ]
      refine takeL 9 (v := ?_) rfl (by kernel_rfl) (by kernel_rfl) (by kernel_rfl) (fun _ _ _ h => h) (by rfl) (by assumption) ?_ ?_
      rotate_left
      · (intro w hSw; (try dsimp only at hSw); have p0 := cellB c0 hSw hgW; have p1 := cellB c1 hSw hgW; go_simp <;> with_reducible rfl)
      try simp only [Act.put, List.setIfInBounds_toArray, List.set_cons_zero, List.set_cons_succ]
      refine takeL 10 (v := ?_) rfl (by kernel_rfl) (by kernel_rfl) (by kernel_rfl) (fun _ _ _ h => h) (by rfl) (by assumption) ?_ ?_
      rotate_left
      · (intro w hSw; (try dsimp only at hSw); have p0 := cellB c0 hSw hgW; have p1 := cellB c1 hSw hgW; go_simp <;> with_reducible rfl)
      try simp only [Act.put, List.setIfInBounds_toArray, List.set_cons_zero, List.set_cons_succ]
      refine takeL 11 (v := ?_) rfl (by kernel_rfl) (by kernel_rfl) (by kernel_rfl) (fun _ _ _ h => h) (by rfl) (by assumption) ?_ ?_
      rotate_left
      · (intro w hSw; (try dsimp only at hSw); have p0 := cellB c0 hSw hgW; have p1 := cellB c1 hSw hgW; go_simp <;> with_reducible rfl)
      try simp only [Act.put, List.setIfInBounds_toArray, List.set_cons_zero, List.set_cons_succ]
      refine oneL 13 rfl (by kernel_rfl) (fun K hK => ?_)
      go_simp
      skip
      refine hK.out _ _ ?_ (fun hHeld2 => ?_)
      · (try dsimp only)
        (first | exact hS0 | exact hKp | go_grown)
      clear hK K hHeld
      have hHeld := hHeld2
      clear hHeld2
      try simp only [Act.put, List.setIfInBounds_toArray, List.set_cons_zero, List.set_cons_succ]
      refine takeL 14 (v := ?_) rfl (by kernel_rfl) (by kernel_rfl) (by kernel_rfl) (fun _ _ _ h => h) (by rfl) (by assumption) ?_ ?_
      rotate_left
      · (intro w hSw; (try dsimp only at hSw); have p0 := cellB c0 hSw hgW; have p1 := cellB c1 hSw hgW; go_simp <;> with_reducible rfl)
      try simp only [Act.put, List.setIfInBounds_toArray, List.set_cons_zero, List.set_cons_succ]
      refine wpAnyH_done (by kernel_rfl) ?_ _
      (try simp only [Exit.inBlock, Exit.then])
      go_wp2_with fail
      (try simp only [Exit.inBlock, Exit.then])
      go_ret
      exact ⟨rfl, hBW.trans (hHeld.mono hBW.size)⟩
  · go_simp
    refine hK.out _ _ ?_ (fun hHeld2 => ?_)
    · (try dsimp only)
      (first | exact hS0 | exact hKp | go_grown)
    clear hK K hHeld
    have hHeld := hHeld2
    clear hHeld2
    try simp only [Act.put, List.setIfInBounds_toArray, List.set_cons_zero, List.set_cons_succ]
    refine oneL 7 rfl (by kernel_rfl) (fun K hK => ?_)
    go_simp
    skip
    refine hK.out _ _ ?_ (fun hHeld2 => ?_)
    · (try dsimp only)
      (first | exact hS0 | exact hKp | go_grown)
    clear hK K hHeld
    have hHeld := hHeld2
    clear hHeld2
    try simp only [Act.put, List.setIfInBounds_toArray, List.set_cons_zero, List.set_cons_succ]
    refine oneL 8 rfl (by kernel_rfl) (fun K hK => ?_)
    go_simp
    (go_at_call 11; refine (calls_at8 (dec_yes (KL.lit ((W.drew).alloc (.cells #[.int .i64 0, .int .i64 0, .int .u64 0] (24 : Nat))) [x, n, z] (by simp)) h4x.out h4) (by simp [World.size_alloc, World.size_drew])).mono ?_)
    rintro e w8 ⟨rfl, hb⟩
    have hKp : Below W.heap.size W w8 := (show Below W.heap.size W (((W.drew).alloc (.cells #[.int .i64 0, .int .i64 0, .int .u64 0] (24 : Nat))).alloc (.cells #[.int .u64 (x : Nat), .int .u64 (n : Nat), .int .u64 (z : Nat)] (22 : Nat))) by go_grown).trans (hb.mono (by simp <;> omega))
    have hS8 : W.heap.size ≤ w8.heap.size := hKp.size
    have hZc := ((C3.new (W.drew) (.int .i64 0) (.int .i64 0) (.int .u64 0) (24 : Nat)).alloc (.cells #[.int .u64 (x : Nat), .int .u64 (n : Nat), .int .u64 (z : Nat)] (22 : Nat))).keep hb
    have hZf := ((F3.new (W.drew) (.int .i64 0) (.int .i64 0) (.int .u64 0) (24 : Nat)).keep (by simp) ((Below.refl _ _).alloc (Nat.le_refl _) (.cells #[.int .u64 (x : Nat), .int .u64 (n : Nat), .int .u64 (z : Nat)] (22 : Nat)))).keep (by simp <;> omega) hb
    simp only [World.size_alloc, World.size_drew] at hZc hZf
    obtain ⟨z0, z1, z2⟩ := hZc
    obtain ⟨f0, f1, f2⟩ := hZf
    clear hb
    refine hK.out _ _ ?_ (fun hHeld2 => ?_)
    · (try dsimp only)
      (first | exact hS0 | exact hKp | go_grown)
    clear hK K hHeld
    have hHeld := hHeld2
    clear hHeld2
    try simp only [Act.put, List.setIfInBounds_toArray, List.set_cons_zero, List.set_cons_succ]
    refine takeL 9 (v := ?_) rfl (by kernel_rfl) (by kernel_rfl) (by kernel_rfl) (fun _ _ _ h => h) (by rfl) (by assumption) ?_ ?_
    rotate_left
    · (intro w hSw; (try dsimp only at hSw); have p0 := cellB c0 hSw hgW; have p1 := cellB c1 hSw hgW; go_simp <;> with_reducible rfl)
    try simp only [Act.put, List.setIfInBounds_toArray, List.set_cons_zero, List.set_cons_succ]
    refine takeL 10 (v := ?_) rfl (by kernel_rfl) (by kernel_rfl) (by kernel_rfl) (fun _ _ _ h => h) (by rfl) (by assumption) ?_ ?_
    rotate_left
    · (intro w hSw; (try dsimp only at hSw); have p0 := cellB c0 hSw hgW; have p1 := cellB c1 hSw hgW; go_simp <;> with_reducible rfl)
    try simp only [Act.put, List.setIfInBounds_toArray, List.set_cons_zero, List.set_cons_succ]
    refine takeL 11 (v := ?_) rfl (by kernel_rfl) (by kernel_rfl) (by kernel_rfl) (fun _ _ _ h => h) (by rfl) (by assumption) ?_ ?_
    rotate_left
    · (intro w hSw; (try dsimp only at hSw); have p0 := cellB c0 hSw hgW; have p1 := cellB c1 hSw hgW; go_simp <;> with_reducible rfl)
    try simp only [Act.put, List.setIfInBounds_toArray, List.set_cons_zero, List.set_cons_succ]
    refine oneL 13 rfl (by kernel_rfl) (fun K hK => ?_)
    go_simp
    skip
    refine hK.out _ _ ?_ (fun hHeld2 => ?_)
    · (try dsimp only)
      (first | exact hS0 | exact hKp | go_grown)
    clear hK K hHeld
    have hHeld := hHeld2
    clear hHeld2
    try simp only [Act.put, List.setIfInBounds_toArray, List.set_cons_zero, List.set_cons_succ]
    refine takeL 14 (v := ?_) rfl (by kernel_rfl) (by kernel_rfl) (by kernel_rfl) (fun _ _ _ h => h) (by rfl) (by assumption) ?_ ?_
    rotate_left
    · (intro w hSw; (try dsimp only at hSw); have p0 := cellB c0 hSw hgW; have p1 := cellB c1 hSw hgW; go_simp <;> with_reducible rfl)
    try simp only [Act.put, List.setIfInBounds_toArray, List.set_cons_zero, List.set_cons_succ]
    refine wpAnyH_done (by kernel_rfl) ?_ _
    (try simp only [Exit.inBlock, Exit.then])
    go_wp2_with fail
    (try simp only [Exit.inBlock, Exit.then])
    go_ret
    exact ⟨rfl, hBW.trans (hHeld.mono hBW.size)⟩
end Go.Proofs.YtdblioggncnapaaDoor
