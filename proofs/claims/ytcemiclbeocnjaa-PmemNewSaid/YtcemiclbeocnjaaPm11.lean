/-
  The laws of package pmem: PmemNew.
-/
import Derived.Test.YtcemiclbeocnjaaPm10
import Derived.Test.YtcemiclbeocnjaaRegX
set_option linter.unusedVariables false
set_option linter.unusedSimpArgs false
namespace Go.Proofs.Ytcemiclbeocnjaa
open Go.RowKit Go.ChangeShapes Go.WideShapes Go.Deep Go.Maps

theorem kl_made (w : World) (n : Nat) : KL .u64 (w.alloc (.cells (madeCells #[Value.int IntKind.u64 0] n) 32)) (.slice (some ⟨w.heap.size, 0, none⟩) n n) (List.replicate n 0) := by
  have hb := World.alloc_heap_new w (.cells (madeCells #[Value.int IntKind.u64 0] n) 32)
  refine ⟨_, n, by rw [List.length_replicate], fun _ => ⟨_, 0, rfl, (Array.getElem?_eq_some_iff.1 hb).1, by rw [List.length_replicate]; exact Nat.le_refl _, fun i hi => ?_⟩⟩
  rw [List.length_replicate] at hi
  rw [Nat.zero_add]
  have hm : (madeCells #[Value.int IntKind.u64 0] n)[i]? = some (.int .u64 0) := by
    have q : (madeCells #[Value.int IntKind.u64 0] n).toList = List.replicate n (.int .u64 0) := toList_madeCells_one _ _
    rw [← Array.getElem?_toList, q, List.getElem?_replicate, if_pos hi]
  rw [(cell_blk hb hm).1, List.getD_eq_getElem?_getD, List.getElem?_replicate, if_pos hi]
  rfl
theorem kl_madeH {W w : World} (h : Below W.heap.size W w) (n : Nat) : KL .u64 (w.alloc (.cells (madeCells #[Value.int IntKind.u64 0] n) 32)) (.slice (some ⟨w.heap.size, 0, none⟩) n n) (List.replicate n 0) := kl_made w n
theorem below_madeH {W w : World} (h : Below W.heap.size W w) (n : Nat) : Below w.heap.size w (w.alloc (.cells (madeCells #[Value.int IntKind.u64 0] n) 32)) := (Below.refl _ _).alloc (Nat.le_refl _) _
theorem make_run (n : Nat) (h : n ≤ 1000) (w : World) : (Instr.makeSlice 22 (.int .i64 (n : Int)) (.int .i64 (n : Int))).run Try.prog w = .ok (.slice (some ⟨w.heap.size, 0, none⟩) n n) (w.alloc (.cells (madeCells #[Value.int IntKind.u64 0] n) 32)) := by
  obtain ⟨i0, hi, hz0, hz1, hz2⟩ := info_parts infoU64
  have q := run_make (P := Try.prog) w 22 32 i0 (.int .u64 0) Try.underlying22 hi hz0 .i64 .i64 (n : Int) (n : Int) (by omega) (Int.le_refl _) (by rw [hz2]; omega) (by omega)
  rw [Int.toNat_natCast, hz1, Nat.mul_one] at q
  exact q
theorem keysL_nil (L : List Nat) : keysL L.length (dv0 L).c = [] := by
  unfold keysL
  rw [List.filter_eq_nil_iff]
  intro x _
  simp [dv0]

set_option maxRecDepth 10000 in
set_option maxHeartbeats 4000000 in
theorem pmemNew_far (words : Int) (v : Value) (l : List Nat) (w : World) (hv : KL .u64 w v l) (hz : l.length ≤ 140737488355328) (h : (1000 < words ∧ words ≤ 65536) ∨ 40 < l.length) :
    Calls Try.prog 4 #[.int .i64 words, v] w fun e w' => e = .returned (.bool true) ∧ Below w.heap.size w w' := by
  have hAw := awake3_any w
  obtain ⟨n, hn⟩ : ∃ n, l.length = n := ⟨_, rfl⟩
  obtain ⟨A, cap, rfl, _⟩ := hv.form hn
  rw [hn] at h hz
  clear hv
  by_cases h1 : 1000 < words
  · by_cases h2 : words ≤ 65536
    · clear h
      go_enter Try.func4, Try.ntmps4
      go_wp2_with (go_at_call 11; refine hAw.mono ?_; rintro e w1 ⟨rfl, hb1⟩; clear hAw)
      go_ret
      exact ⟨rfl, hb1⟩
    · have h3 : (40 : Int) < (n : Int) := by omega
      have h4 : 65536 < words := by omega
      clear h
      go_enter Try.func4, Try.ntmps4
      go_wp2_with (go_at_call 11; refine hAw.mono ?_; rintro e w1 ⟨rfl, hb1⟩; clear hAw)
      go_ret
      exact ⟨rfl, hb1⟩
  · have h3 : (40 : Int) < (n : Int) := by omega
    have h4 : words ≤ 1000 := by omega
    clear h
    go_enter Try.func4, Try.ntmps4
    go_wp2_with (go_at_call 11; refine hAw.mono ?_; rintro e w1 ⟨rfl, hb1⟩; clear hAw)
    go_ret
    exact ⟨rfl, hb1⟩

set_option maxRecDepth 10000 in
set_option maxHeartbeats 4000000 in
theorem pmemNew_nn (words : Int) (hno : words < 1 ∨ 65536 < words) (v : Value) (l : List Nat) (w : World) (hv : KL .u64 w v l) (hl : l = []) :
    Calls Try.prog 4 #[.int .i64 words, v] w fun e w' => e = .returned (.bool true) ∧ Below w.heap.size w w' := by
  have hAw := awake3_any w
  subst hl
  obtain ⟨A, cap, rfl, _⟩ := hv.form rfl
  simp only [List.length_nil]
  clear hv
  by_cases h1 : words < 1
  · have h3 : words ≤ 1000 := by omega
    go_enter Try.func4, Try.ntmps4
    go_wp2_with (first
      | (go_at_call 11; refine hAw.mono ?_; rintro e w1 ⟨rfl, hb1⟩; clear hAw)
      | (go_at_call 28; refine (dNew_no words w1 hno).mono ?_; rintro e w2 ⟨rfl, rfl⟩; have hb2w := hb1)
      | (go_at_call 13; refine (dOpen_no _ _ _).mono ?_; rintro e w3 ⟨rfl, rfl⟩))
    go_ret
    exact ⟨rfl, hb2w⟩
  · have h2 : 65536 < words := by omega
    have h3 : 1000 < words := by omega
    go_enter Try.func4, Try.ntmps4
    go_wp2_with (first
      | (go_at_call 11; refine hAw.mono ?_; rintro e w1 ⟨rfl, hb1⟩; clear hAw)
      | (go_at_call 28; refine (dNew_no words w1 hno).mono ?_; rintro e w2 ⟨rfl, rfl⟩; have hb2w := hb1)
      | (go_at_call 13; refine (dOpen_no _ _ _).mono ?_; rintro e w3 ⟨rfl, rfl⟩))
    go_ret
    exact ⟨rfl, hb2w⟩

set_option maxRecDepth 10000 in
set_option maxHeartbeats 4000000 in
theorem pmemNew_ny (words : Int) (hno : words < 1 ∨ 65536 < words) (v : Value) (l : List Nat) (w : World) (hv : KL .u64 w v l) (hl : 1 ≤ l.length ∧ l.length ≤ 40) :
    Calls Try.prog 4 #[.int .i64 words, v] w fun e w' => e = .returned (.bool true) ∧ Below w.heap.size w w' := by
  have hAw := awake3_any w
  obtain ⟨hl1, hl2⟩ := hl
  obtain ⟨m, hm⟩ : ∃ m, l.length = m := ⟨_, rfl⟩
  have hvh := Lib.hid hv
  obtain ⟨A, cap, rfl, _⟩ := hv.form hm
  have hm1 : ¬ (m : Int) = 0 := by omega
  have hm2 : (m : Int) ≤ 40 := by omega
  replace hm := Lib.hid hm
  clear hv
  by_cases h1 : words < 1
  · have h3 : words ≤ 1000 := by omega
    go_enter Try.func4, Try.ntmps4
    go_wp2_with (first
      | (go_at_call 11; refine hAw.mono ?_; rintro e w1 ⟨rfl, hb1⟩; clear hAw)
      | (go_at_call 28; refine (dNew_no words w1 hno).mono ?_; rintro e w2 ⟨rfl, rfl⟩; have hb2w := hb1)
      | (go_at_call 13; refine (dOpen _ l _ hl1 (by omega) (hvh.out.keep hb2w)).mono ?_; rintro e w3 ⟨B2, F2, rfl, hO, hF2, hb3⟩
         have hb3w := hb2w.trans (hb3.mono hb2w.size)
         replace hF2 := Lib.hid hF2)
      | (go_at_call 25; refine (dImage B2 F2 (dv0 l) _ hO (by show l.length ≤ 1000; omega)).mono ?_; rintro e w4 ⟨vi, rfl, hoI, hb4⟩
         replace hO := hO.keep hb4
         have hvi := hoI.kl
         obtain ⟨Ai, ci, rfl, _⟩ := hoI.form
         have hb4w := hb3w.trans (hb4.mono hb3w.size)
         clear hoI)
      | (go_at_call 24; refine (words_any _ _ l l _ (by omega) hvi (hvh.out.keep hb4w)).mono ?_; rintro e w5 ⟨rfl, hb5⟩
         replace hO := hO.keep hb5
         have hb5w := hb4w.trans (hb5.mono hb4w.size)
         rw [show decide (l = l) = true by simp]
         clear hvi)
      | (go_at_call 27; refine (dWords B2 F2 (dv0 l) _ hO).mono ?_; rintro e w6 ⟨rfl, rfl⟩; rw [show (dv0 l).L.length = m from hm.out]))
    go_ret
    exact ⟨rfl, hb5w⟩
  · have h2 : 65536 < words := by omega
    have h3 : 1000 < words := by omega
    go_enter Try.func4, Try.ntmps4
    go_wp2_with (first
      | (go_at_call 11; refine hAw.mono ?_; rintro e w1 ⟨rfl, hb1⟩; clear hAw)
      | (go_at_call 28; refine (dNew_no words w1 hno).mono ?_; rintro e w2 ⟨rfl, rfl⟩; have hb2w := hb1)
      | (go_at_call 13; refine (dOpen _ l _ hl1 (by omega) (hvh.out.keep hb2w)).mono ?_; rintro e w3 ⟨B2, F2, rfl, hO, hF2, hb3⟩
         have hb3w := hb2w.trans (hb3.mono hb2w.size)
         replace hF2 := Lib.hid hF2)
      | (go_at_call 25; refine (dImage B2 F2 (dv0 l) _ hO (by show l.length ≤ 1000; omega)).mono ?_; rintro e w4 ⟨vi, rfl, hoI, hb4⟩
         replace hO := hO.keep hb4
         have hvi := hoI.kl
         obtain ⟨Ai, ci, rfl, _⟩ := hoI.form
         have hb4w := hb3w.trans (hb4.mono hb3w.size)
         clear hoI)
      | (go_at_call 24; refine (words_any _ _ l l _ (by omega) hvi (hvh.out.keep hb4w)).mono ?_; rintro e w5 ⟨rfl, hb5⟩
         replace hO := hO.keep hb5
         have hb5w := hb4w.trans (hb5.mono hb4w.size)
         rw [show decide (l = l) = true by simp]
         clear hvi)
      | (go_at_call 27; refine (dWords B2 F2 (dv0 l) _ hO).mono ?_; rintro e w6 ⟨rfl, rfl⟩; rw [show (dv0 l).L.length = m from hm.out]))
    go_ret
    exact ⟨rfl, hb5w⟩

set_option maxRecDepth 10000 in
set_option maxHeartbeats 4000000 in
theorem pmemNew_yn (n : Nat) (h1 : 1 ≤ n) (h2 : n ≤ 1000) (v : Value) (l : List Nat) (w : World) (hv : KL .u64 w v l) (hl : l = []) :
    Calls Try.prog 4 #[.int .i64 (n : Int), v] w fun e w' => e = .returned (.bool true) ∧ Below w.heap.size w w' := by
  have hAw := awake3_any w
  subst hl
  obtain ⟨A, cap, rfl, _⟩ := hv.form rfl
  simp only [List.length_nil]
  clear hv
  have q1 : (n : Int) ≤ 1000 := by omega
  have q2 : ¬ (n : Int) < 1 := by omega
  have q3 : ¬ 65536 < (n : Int) := by omega
  go_enter Try.func4, Try.ntmps4
  go_wp2_with (first
    | (go_at_call 11; refine hAw.mono ?_; rintro e w1 ⟨rfl, hb1⟩; clear hAw)
    | (go_at_call 28; refine (dNew n w1 h1 (by omega)).mono ?_; rintro e w2 ⟨B, F, rfl, hD, hF, hb2⟩
       have hb2w := hb1.trans (hb2.mono hb1.size)
       replace hF := Lib.hid hF
       clear hb2)
    | (go_at_call 13; refine (dOpen_no _ _ _).mono ?_; rintro e w3 ⟨rfl, rfl⟩))
  have hMk := make_run n (by omega)
  obtain ⟨W, hW⟩ : ∃ W, w3 = W := ⟨_, rfl⟩
  rw [hW] at hD hb2w ⊢
  have hDh := Lib.hid (fun w' (hb : Below W.heap.size W w') => hD.keep hb)
  have hBW := Lib.hid hb2w
  have hn0 := Lib.hid (show keysL (newD n).L.length (newD n).c = [] from keysL_nil (List.replicate n 0))
  have hg := Lib.hid (show GoodD (newD n) from (GoodK.zero (List.replicate n 0)).good (by rw [List.length_replicate]; omega) (by rw [List.length_replicate]; omega) (by decide))
  have hlr : (newD n).L.length = n := by simp [newD, dv0]
  clear hD hW
  go_wp2_with fail
  refine wp_region_held_drew (S := (fun w' => Below W.heap.size W w')) (by kernel_rfl) ?_ (fun hHeld => ?_)
  · (try dsimp only)
    (first | assumption | (exact (Below.refl _ _).drew) | (exact Below.trans hHeld (hb.mono (Below.size hHeld))))
  refine takeL 0 (v := ?_) rfl (by kernel_rfl) (by kernel_rfl) (by kernel_rfl) (fun _ _ _ h => h) (by rfl) (by assumption) ?_ ?_
  rotate_left
  · (intro w hSw; (try dsimp only at hSw); (try go_split_ands); go_simp <;> with_reducible rfl)
  try simp only [Act.put, List.setIfInBounds_toArray, List.set_cons_zero, List.set_cons_succ]
  refine takeL 1 (v := ?_) rfl (by kernel_rfl) (by kernel_rfl) (by kernel_rfl) (fun _ _ _ h => h) (by rfl) (by assumption) ?_ ?_
  rotate_left
  · (intro w hSw; (try dsimp only at hSw); (try go_split_ands); go_simp <;> with_reducible rfl)
  try simp only [Act.put, List.setIfInBounds_toArray, List.set_cons_zero, List.set_cons_succ]
  refine takeL 2 (v := ?_) rfl (by kernel_rfl) (by kernel_rfl) (by kernel_rfl) (fun _ _ _ h => h) (by rfl) (by assumption) ?_ ?_
  rotate_left
  · (intro w hSw; (try dsimp only at hSw); (try go_split_ands); go_simp <;> with_reducible rfl)
  try simp only [Act.put, List.setIfInBounds_toArray, List.set_cons_zero, List.set_cons_succ]
  refine takeL 4 (v := ?_) rfl (by kernel_rfl) (by kernel_rfl) (by kernel_rfl) (fun _ _ _ h => h) (by rfl) (by assumption) ?_ ?_
  rotate_left
  · (intro w hSw; (try dsimp only at hSw); (try go_split_ands); go_simp <;> with_reducible rfl)
  try simp only [Act.put, List.setIfInBounds_toArray, List.set_cons_zero, List.set_cons_succ]
  refine oneL 3 rfl (by kernel_rfl) (fun K hK => ?_)
  go_simp
  ((with_reducible refine (dWords B F (newD n) _ (hDh.out _ (by assumption))).mono ?_); rintro e w8 ⟨rfl, rfl⟩; rw [hlr])
  refine hK.out _ _ ?_ (fun hHeld2 => ?_)
  · (try dsimp only)
    (first | assumption | (exact (Below.refl _ _).drew) | (exact Below.trans hHeld (hb.mono (Below.size hHeld))))
  clear hK K hHeld
  have hHeld := hHeld2
  clear hHeld2
  try simp only [Act.put, List.setIfInBounds_toArray, List.set_cons_zero, List.set_cons_succ]
  refine takeL 5 (v := ?_) rfl (by kernel_rfl) (by kernel_rfl) (by kernel_rfl) (fun _ _ _ h => h) (by rfl) (by assumption) ?_ ?_
  rotate_left
  · (intro w hSw; (try dsimp only at hSw); (try go_split_ands); go_simp <;> with_reducible rfl)
  try simp only [Act.put, List.setIfInBounds_toArray, List.set_cons_zero, List.set_cons_succ]
  refine takeL 6 (v := ?_) rfl (by kernel_rfl) (by kernel_rfl) (by kernel_rfl) (fun _ _ _ h => h) (by rfl) (by assumption) ?_ ?_
  rotate_left
  · (intro w hSw; (try dsimp only at hSw); (try go_split_ands); go_simp <;> with_reducible rfl)
  try simp only [Act.put, List.setIfInBounds_toArray, List.set_cons_zero, List.set_cons_succ]
  refine takeL 7 (v := ?_) rfl (by kernel_rfl) (by kernel_rfl) (by kernel_rfl) (fun _ _ _ h => h) (by rfl) (by assumption) ?_ ?_
  rotate_left
  · (intro w hSw; (try dsimp only at hSw); (try go_split_ands); go_simp <;> with_reducible rfl)
  try simp only [Act.put, List.setIfInBounds_toArray, List.set_cons_zero, List.set_cons_succ]
  refine takeL 8 (v := ?_) rfl (by kernel_rfl) (by kernel_rfl) (by kernel_rfl) (fun _ _ _ h => h) (by rfl) (by assumption) ?_ ?_
  rotate_left
  · (intro w hSw; (try dsimp only at hSw); (try go_split_ands); go_simp <;> with_reducible rfl)
  try simp only [Act.put, List.setIfInBounds_toArray, List.set_cons_zero, List.set_cons_succ]
  refine takeL 10 (v := ?_) rfl (by kernel_rfl) (by kernel_rfl) (by kernel_rfl) (fun _ _ _ h => h) (by rfl) (by assumption) ?_ ?_
  rotate_left
  · (intro w hSw; (try dsimp only at hSw); (try go_split_ands); go_simp <;> with_reducible rfl)
  try simp only [Act.put, List.setIfInBounds_toArray, List.set_cons_zero, List.set_cons_succ]
  refine twoL 9 11 rfl rfl (by kernel_rfl) (fun K hK => ?_) (fun K hK => ?_)
  · go_simp
    ((with_reducible refine (dImage B F (newD n) _ (hDh.out _ (by assumption)) (by rw [hlr]; omega)).mono ?_); rintro e w9 ⟨v9, rfl, ho, hb⟩; have hi9 : KL .u64 w9 v9 (List.replicate n 0) := ho.kl; obtain ⟨A9, c9, rfl, _⟩ := hi9.form (List.length_replicate ..); clear ho; (try replace hz := hz.keep hb))
    refine hK.out _ _ ?_ (fun hHeld2 => ?_)
    · (try dsimp only)
      (first | assumption | (exact (Below.refl _ _).drew) | (exact Below.trans hHeld (hb.mono (Below.size hHeld))))
    clear hK K hHeld
    have hHeld := hHeld2
    clear hHeld2
    try simp only [Act.put, List.setIfInBounds_toArray, List.set_cons_zero, List.set_cons_succ]
    refine oneL 11 rfl (by kernel_rfl) (fun K hK => ?_)
    go_simp
    (have hz := kl_madeH hHeld n; have hb := below_madeH hHeld n; (try change KL .u64 _ (.slice (some ⟨W.heap.size, 0, none⟩) n n) _ at hz); (try replace hi9 := hi9.keep hb))
    refine hK.out _ _ ?_ (fun hHeld2 => ?_)
    · (try dsimp only)
      (first | assumption | (exact (Below.refl _ _).drew) | (exact Below.trans hHeld (hb.mono (Below.size hHeld))))
    clear hK K hHeld
    have hHeld := hHeld2
    clear hHeld2
    try simp only [Act.put, List.setIfInBounds_toArray, List.set_cons_zero, List.set_cons_succ]
    refine oneL 12 rfl (by kernel_rfl) (fun K hK => ?_)
    go_simp
    ((with_reducible refine (words_any _ _ (List.replicate n 0) (List.replicate n 0) _ (by rw [List.length_replicate]; omega) hi9 hz).mono ?_); rintro e w10 ⟨rfl, hb⟩; rw [show decide (List.replicate n (0 : Nat) = List.replicate n 0) = true by simp]; clear hi9 hz)
    refine hK.out _ _ ?_ (fun hHeld2 => ?_)
    · (try dsimp only)
      (first | assumption | (exact (Below.refl _ _).drew) | (exact Below.trans hHeld (hb.mono (Below.size hHeld))))
    clear hK K hHeld
    have hHeld := hHeld2
    clear hHeld2
    try simp only [Act.put, List.setIfInBounds_toArray, List.set_cons_zero, List.set_cons_succ]
    refine takeL 13 (v := ?_) rfl (by kernel_rfl) (by kernel_rfl) (by kernel_rfl) (fun _ _ _ h => h) (by rfl) (by assumption) ?_ ?_
    rotate_left
    · (intro w hSw; (try dsimp only at hSw); (try go_split_ands); go_simp <;> with_reducible rfl)
    try simp only [Act.put, List.setIfInBounds_toArray, List.set_cons_zero, List.set_cons_succ]
    refine takeL 14 (v := ?_) rfl (by kernel_rfl) (by kernel_rfl) (by kernel_rfl) (fun _ _ _ h => h) (by rfl) (by assumption) ?_ ?_
    rotate_left
    · (intro w hSw; (try dsimp only at hSw); (try go_split_ands); go_simp <;> with_reducible rfl)
    try simp only [Act.put, List.setIfInBounds_toArray, List.set_cons_zero, List.set_cons_succ]
    refine takeL 15 (v := ?_) rfl (by kernel_rfl) (by kernel_rfl) (by kernel_rfl) (fun _ _ _ h => h) (by rfl) (by assumption) ?_ ?_
    rotate_left
    · (intro w hSw; (try dsimp only at hSw); (try go_split_ands); go_simp <;> with_reducible rfl)
    try simp only [Act.put, List.setIfInBounds_toArray, List.set_cons_zero, List.set_cons_succ]
    refine oneL 16 rfl (by kernel_rfl) (fun K hK => ?_)
    go_simp
    ((with_reducible refine (dSteps B F (newD n) _ (hDh.out _ (by assumption))).mono ?_); rintro e w8 ⟨rfl, rfl⟩; rw [show (newD n).steps = 0 from rfl])
    refine hK.out _ _ ?_ (fun hHeld2 => ?_)
    · (try dsimp only)
      (first | assumption | (exact (Below.refl _ _).drew) | (exact Below.trans hHeld (hb.mono (Below.size hHeld))))
    clear hK K hHeld
    have hHeld := hHeld2
    clear hHeld2
    try simp only [Act.put, List.setIfInBounds_toArray, List.set_cons_zero, List.set_cons_succ]
    refine takeL 17 (v := ?_) rfl (by kernel_rfl) (by kernel_rfl) (by kernel_rfl) (fun _ _ _ h => h) (by rfl) (by assumption) ?_ ?_
    rotate_left
    · (intro w hSw; (try dsimp only at hSw); (try go_split_ands); go_simp <;> with_reducible rfl)
    try simp only [Act.put, List.setIfInBounds_toArray, List.set_cons_zero, List.set_cons_succ]
    refine takeL 18 (v := ?_) rfl (by kernel_rfl) (by kernel_rfl) (by kernel_rfl) (fun _ _ _ h => h) (by rfl) (by assumption) ?_ ?_
    rotate_left
    · (intro w hSw; (try dsimp only at hSw); (try go_split_ands); go_simp <;> with_reducible rfl)
    try simp only [Act.put, List.setIfInBounds_toArray, List.set_cons_zero, List.set_cons_succ]
    refine takeL 19 (v := ?_) rfl (by kernel_rfl) (by kernel_rfl) (by kernel_rfl) (fun _ _ _ h => h) (by rfl) (by assumption) ?_ ?_
    rotate_left
    · (intro w hSw; (try dsimp only at hSw); (try go_split_ands); go_simp <;> with_reducible rfl)
    try simp only [Act.put, List.setIfInBounds_toArray, List.set_cons_zero, List.set_cons_succ]
    refine takeL 20 (v := ?_) rfl (by kernel_rfl) (by kernel_rfl) (by kernel_rfl) (fun _ _ _ h => h) (by rfl) (by assumption) ?_ ?_
    rotate_left
    · (intro w hSw; (try dsimp only at hSw); (try go_split_ands); go_simp <;> with_reducible rfl)
    try simp only [Act.put, List.setIfInBounds_toArray, List.set_cons_zero, List.set_cons_succ]
    refine oneL 21 rfl (by kernel_rfl) (fun K hK => ?_)
    go_simp
    ((with_reducible refine (dDead B F (newD n) _ (hDh.out _ (by assumption))).mono ?_); rintro e w8 ⟨rfl, rfl⟩; rw [show (newD n).dead = false from rfl])
    refine hK.out _ _ ?_ (fun hHeld2 => ?_)
    · (try dsimp only)
      (first | assumption | (exact (Below.refl _ _).drew) | (exact Below.trans hHeld (hb.mono (Below.size hHeld))))
    clear hK K hHeld
    have hHeld := hHeld2
    clear hHeld2
    try simp only [Act.put, List.setIfInBounds_toArray, List.set_cons_zero, List.set_cons_succ]
    refine takeL 22 (v := ?_) rfl (by kernel_rfl) (by kernel_rfl) (by kernel_rfl) (fun _ _ _ h => h) (by rfl) (by assumption) ?_ ?_
    rotate_left
    · (intro w hSw; (try dsimp only at hSw); (try go_split_ands); go_simp <;> with_reducible rfl)
    try simp only [Act.put, List.setIfInBounds_toArray, List.set_cons_zero, List.set_cons_succ]
    refine takeL 23 (v := ?_) rfl (by kernel_rfl) (by kernel_rfl) (by kernel_rfl) (fun _ _ _ h => h) (by rfl) (by assumption) ?_ ?_
    rotate_left
    · (intro w hSw; (try dsimp only at hSw); (try go_split_ands); go_simp <;> with_reducible rfl)
    try simp only [Act.put, List.setIfInBounds_toArray, List.set_cons_zero, List.set_cons_succ]
    refine takeL 24 (v := ?_) rfl (by kernel_rfl) (by kernel_rfl) (by kernel_rfl) (fun _ _ _ h => h) (by rfl) (by assumption) ?_ ?_
    rotate_left
    · (intro w hSw; (try dsimp only at hSw); (try go_split_ands); go_simp <;> with_reducible rfl)
    try simp only [Act.put, List.setIfInBounds_toArray, List.set_cons_zero, List.set_cons_succ]
    refine takeL 25 (v := ?_) rfl (by kernel_rfl) (by kernel_rfl) (by kernel_rfl) (fun _ _ _ h => h) (by rfl) (by assumption) ?_ ?_
    rotate_left
    · (intro w hSw; (try dsimp only at hSw); (try go_split_ands); go_simp <;> with_reducible rfl)
    try simp only [Act.put, List.setIfInBounds_toArray, List.set_cons_zero, List.set_cons_succ]
    refine oneL 26 rfl (by kernel_rfl) (fun K hK => ?_)
    go_simp
    ((with_reducible refine (dDirty B F (newD n) _ (hDh.out _ (by assumption)) hg.out).mono ?_); rintro e w11 ⟨v11, rfl, ho, hb⟩; (rw [show keysL (newD n).L.length (newD n).c = [] from hn0.out] at ho); obtain ⟨A11, c11, rfl, _⟩ := (ho.el iE_len).form rfl; clear ho)
    refine hK.out _ _ ?_ (fun hHeld2 => ?_)
    · (try dsimp only)
      (first | assumption | (exact (Below.refl _ _).drew) | (exact Below.trans hHeld (hb.mono (Below.size hHeld))))
    clear hK K hHeld
    have hHeld := hHeld2
    clear hHeld2
    try simp only [Act.put, List.setIfInBounds_toArray, List.set_cons_zero, List.set_cons_succ]
    refine takeL 27 (v := ?_) rfl (by kernel_rfl) (by kernel_rfl) (by kernel_rfl) (fun _ _ _ h => h) (by rfl) (by assumption) ?_ ?_
    rotate_left
    · (intro w hSw; (try dsimp only at hSw); (try go_split_ands); go_simp <;> with_reducible rfl)
    try simp only [Act.put, List.setIfInBounds_toArray, List.set_cons_zero, List.set_cons_succ]
    refine takeL 28 (v := ?_) rfl (by kernel_rfl) (by kernel_rfl) (by kernel_rfl) (fun _ _ _ h => h) (by rfl) (by assumption) ?_ ?_
    rotate_left
    · (intro w hSw; (try dsimp only at hSw); (try go_split_ands); go_simp <;> with_reducible rfl)
    try simp only [Act.put, List.setIfInBounds_toArray, List.set_cons_zero, List.set_cons_succ]
    refine takeL 29 (v := ?_) rfl (by kernel_rfl) (by kernel_rfl) (by kernel_rfl) (fun _ _ _ h => h) (by rfl) (by assumption) ?_ ?_
    rotate_left
    · (intro w hSw; (try dsimp only at hSw); (try go_split_ands); go_simp <;> with_reducible rfl)
    try simp only [Act.put, List.setIfInBounds_toArray, List.set_cons_zero, List.set_cons_succ]
    refine takeL 30 (v := ?_) rfl (by kernel_rfl) (by kernel_rfl) (by kernel_rfl) (fun _ _ _ h => h) (by rfl) (by assumption) ?_ ?_
    rotate_left
    · (intro w hSw; (try dsimp only at hSw); (try go_split_ands); go_simp <;> with_reducible rfl)
    try simp only [Act.put, List.setIfInBounds_toArray, List.set_cons_zero, List.set_cons_succ]
    refine wpAnyH_done (by kernel_rfl) ?_ _
    go_wp2_with fail
    go_ret
    exact ⟨rfl, hBW.out.trans (hHeld.mono hBW.out.size)⟩
  · go_simp
    (have hz := kl_madeH hHeld n; have hb := below_madeH hHeld n; (try change KL .u64 _ (.slice (some ⟨W.heap.size, 0, none⟩) n n) _ at hz); (try replace hi9 := hi9.keep hb))
    refine hK.out _ _ ?_ (fun hHeld2 => ?_)
    · (try dsimp only)
      (first | assumption | (exact (Below.refl _ _).drew) | (exact Below.trans hHeld (hb.mono (Below.size hHeld))))
    clear hK K hHeld
    have hHeld := hHeld2
    clear hHeld2
    try simp only [Act.put, List.setIfInBounds_toArray, List.set_cons_zero, List.set_cons_succ]
    refine oneL 9 rfl (by kernel_rfl) (fun K hK => ?_)
    go_simp
    ((with_reducible refine (dImage B F (newD n) _ (hDh.out _ (by assumption)) (by rw [hlr]; omega)).mono ?_); rintro e w9 ⟨v9, rfl, ho, hb⟩; have hi9 : KL .u64 w9 v9 (List.replicate n 0) := ho.kl; obtain ⟨A9, c9, rfl, _⟩ := hi9.form (List.length_replicate ..); clear ho; (try replace hz := hz.keep hb))
    refine hK.out _ _ ?_ (fun hHeld2 => ?_)
    · (try dsimp only)
      (first | assumption | (exact (Below.refl _ _).drew) | (exact Below.trans hHeld (hb.mono (Below.size hHeld))))
    clear hK K hHeld
    have hHeld := hHeld2
    clear hHeld2
    try simp only [Act.put, List.setIfInBounds_toArray, List.set_cons_zero, List.set_cons_succ]
    refine oneL 12 rfl (by kernel_rfl) (fun K hK => ?_)
    go_simp
    ((with_reducible refine (words_any _ _ (List.replicate n 0) (List.replicate n 0) _ (by rw [List.length_replicate]; omega) hi9 hz).mono ?_); rintro e w10 ⟨rfl, hb⟩; rw [show decide (List.replicate n (0 : Nat) = List.replicate n 0) = true by simp]; clear hi9 hz)
    refine hK.out _ _ ?_ (fun hHeld2 => ?_)
    · (try dsimp only)
      (first | assumption | (exact (Below.refl _ _).drew) | (exact Below.trans hHeld (hb.mono (Below.size hHeld))))
    clear hK K hHeld
    have hHeld := hHeld2
    clear hHeld2
    try simp only [Act.put, List.setIfInBounds_toArray, List.set_cons_zero, List.set_cons_succ]
    refine takeL 13 (v := ?_) rfl (by kernel_rfl) (by kernel_rfl) (by kernel_rfl) (fun _ _ _ h => h) (by rfl) (by assumption) ?_ ?_
    rotate_left
    · (intro w hSw; (try dsimp only at hSw); (try go_split_ands); go_simp <;> with_reducible rfl)
    try simp only [Act.put, List.setIfInBounds_toArray, List.set_cons_zero, List.set_cons_succ]
    refine takeL 14 (v := ?_) rfl (by kernel_rfl) (by kernel_rfl) (by kernel_rfl) (fun _ _ _ h => h) (by rfl) (by assumption) ?_ ?_
    rotate_left
    · (intro w hSw; (try dsimp only at hSw); (try go_split_ands); go_simp <;> with_reducible rfl)
    try simp only [Act.put, List.setIfInBounds_toArray, List.set_cons_zero, List.set_cons_succ]
    refine takeL 15 (v := ?_) rfl (by kernel_rfl) (by kernel_rfl) (by kernel_rfl) (fun _ _ _ h => h) (by rfl) (by assumption) ?_ ?_
    rotate_left
    · (intro w hSw; (try dsimp only at hSw); (try go_split_ands); go_simp <;> with_reducible rfl)
    try simp only [Act.put, List.setIfInBounds_toArray, List.set_cons_zero, List.set_cons_succ]
    refine oneL 16 rfl (by kernel_rfl) (fun K hK => ?_)
    go_simp
    ((with_reducible refine (dSteps B F (newD n) _ (hDh.out _ (by assumption))).mono ?_); rintro e w8 ⟨rfl, rfl⟩; rw [show (newD n).steps = 0 from rfl])
    refine hK.out _ _ ?_ (fun hHeld2 => ?_)
    · (try dsimp only)
      (first | assumption | (exact (Below.refl _ _).drew) | (exact Below.trans hHeld (hb.mono (Below.size hHeld))))
    clear hK K hHeld
    have hHeld := hHeld2
    clear hHeld2
    try simp only [Act.put, List.setIfInBounds_toArray, List.set_cons_zero, List.set_cons_succ]
    refine takeL 17 (v := ?_) rfl (by kernel_rfl) (by kernel_rfl) (by kernel_rfl) (fun _ _ _ h => h) (by rfl) (by assumption) ?_ ?_
    rotate_left
    · (intro w hSw; (try dsimp only at hSw); (try go_split_ands); go_simp <;> with_reducible rfl)
    try simp only [Act.put, List.setIfInBounds_toArray, List.set_cons_zero, List.set_cons_succ]
    refine takeL 18 (v := ?_) rfl (by kernel_rfl) (by kernel_rfl) (by kernel_rfl) (fun _ _ _ h => h) (by rfl) (by assumption) ?_ ?_
    rotate_left
    · (intro w hSw; (try dsimp only at hSw); (try go_split_ands); go_simp <;> with_reducible rfl)
    try simp only [Act.put, List.setIfInBounds_toArray, List.set_cons_zero, List.set_cons_succ]
    refine takeL 19 (v := ?_) rfl (by kernel_rfl) (by kernel_rfl) (by kernel_rfl) (fun _ _ _ h => h) (by rfl) (by assumption) ?_ ?_
    rotate_left
    · (intro w hSw; (try dsimp only at hSw); (try go_split_ands); go_simp <;> with_reducible rfl)
    try simp only [Act.put, List.setIfInBounds_toArray, List.set_cons_zero, List.set_cons_succ]
    refine takeL 20 (v := ?_) rfl (by kernel_rfl) (by kernel_rfl) (by kernel_rfl) (fun _ _ _ h => h) (by rfl) (by assumption) ?_ ?_
    rotate_left
    · (intro w hSw; (try dsimp only at hSw); (try go_split_ands); go_simp <;> with_reducible rfl)
    try simp only [Act.put, List.setIfInBounds_toArray, List.set_cons_zero, List.set_cons_succ]
    refine oneL 21 rfl (by kernel_rfl) (fun K hK => ?_)
    go_simp
    ((with_reducible refine (dDead B F (newD n) _ (hDh.out _ (by assumption))).mono ?_); rintro e w8 ⟨rfl, rfl⟩; rw [show (newD n).dead = false from rfl])
    refine hK.out _ _ ?_ (fun hHeld2 => ?_)
    · (try dsimp only)
      (first | assumption | (exact (Below.refl _ _).drew) | (exact Below.trans hHeld (hb.mono (Below.size hHeld))))
    clear hK K hHeld
    have hHeld := hHeld2
    clear hHeld2
    try simp only [Act.put, List.setIfInBounds_toArray, List.set_cons_zero, List.set_cons_succ]
    refine takeL 22 (v := ?_) rfl (by kernel_rfl) (by kernel_rfl) (by kernel_rfl) (fun _ _ _ h => h) (by rfl) (by assumption) ?_ ?_
    rotate_left
    · (intro w hSw; (try dsimp only at hSw); (try go_split_ands); go_simp <;> with_reducible rfl)
    try simp only [Act.put, List.setIfInBounds_toArray, List.set_cons_zero, List.set_cons_succ]
    refine takeL 23 (v := ?_) rfl (by kernel_rfl) (by kernel_rfl) (by kernel_rfl) (fun _ _ _ h => h) (by rfl) (by assumption) ?_ ?_
    rotate_left
    · (intro w hSw; (try dsimp only at hSw); (try go_split_ands); go_simp <;> with_reducible rfl)
    try simp only [Act.put, List.setIfInBounds_toArray, List.set_cons_zero, List.set_cons_succ]
    refine takeL 24 (v := ?_) rfl (by kernel_rfl) (by kernel_rfl) (by kernel_rfl) (fun _ _ _ h => h) (by rfl) (by assumption) ?_ ?_
    rotate_left
    · (intro w hSw; (try dsimp only at hSw); (try go_split_ands); go_simp <;> with_reducible rfl)
    try simp only [Act.put, List.setIfInBounds_toArray, List.set_cons_zero, List.set_cons_succ]
    refine takeL 25 (v := ?_) rfl (by kernel_rfl) (by kernel_rfl) (by kernel_rfl) (fun _ _ _ h => h) (by rfl) (by assumption) ?_ ?_
    rotate_left
    · (intro w hSw; (try dsimp only at hSw); (try go_split_ands); go_simp <;> with_reducible rfl)
    try simp only [Act.put, List.setIfInBounds_toArray, List.set_cons_zero, List.set_cons_succ]
    refine oneL 26 rfl (by kernel_rfl) (fun K hK => ?_)
    go_simp
    ((with_reducible refine (dDirty B F (newD n) _ (hDh.out _ (by assumption)) hg.out).mono ?_); rintro e w11 ⟨v11, rfl, ho, hb⟩; (rw [show keysL (newD n).L.length (newD n).c = [] from hn0.out] at ho); obtain ⟨A11, c11, rfl, _⟩ := (ho.el iE_len).form rfl; clear ho)
    refine hK.out _ _ ?_ (fun hHeld2 => ?_)
    · (try dsimp only)
      (first | assumption | (exact (Below.refl _ _).drew) | (exact Below.trans hHeld (hb.mono (Below.size hHeld))))
    clear hK K hHeld
    have hHeld := hHeld2
    clear hHeld2
    try simp only [Act.put, List.setIfInBounds_toArray, List.set_cons_zero, List.set_cons_succ]
    refine takeL 27 (v := ?_) rfl (by kernel_rfl) (by kernel_rfl) (by kernel_rfl) (fun _ _ _ h => h) (by rfl) (by assumption) ?_ ?_
    rotate_left
    · (intro w hSw; (try dsimp only at hSw); (try go_split_ands); go_simp <;> with_reducible rfl)
    try simp only [Act.put, List.setIfInBounds_toArray, List.set_cons_zero, List.set_cons_succ]
    refine takeL 28 (v := ?_) rfl (by kernel_rfl) (by kernel_rfl) (by kernel_rfl) (fun _ _ _ h => h) (by rfl) (by assumption) ?_ ?_
    rotate_left
    · (intro w hSw; (try dsimp only at hSw); (try go_split_ands); go_simp <;> with_reducible rfl)
    try simp only [Act.put, List.setIfInBounds_toArray, List.set_cons_zero, List.set_cons_succ]
    refine takeL 29 (v := ?_) rfl (by kernel_rfl) (by kernel_rfl) (by kernel_rfl) (fun _ _ _ h => h) (by rfl) (by assumption) ?_ ?_
    rotate_left
    · (intro w hSw; (try dsimp only at hSw); (try go_split_ands); go_simp <;> with_reducible rfl)
    try simp only [Act.put, List.setIfInBounds_toArray, List.set_cons_zero, List.set_cons_succ]
    refine takeL 30 (v := ?_) rfl (by kernel_rfl) (by kernel_rfl) (by kernel_rfl) (fun _ _ _ h => h) (by rfl) (by assumption) ?_ ?_
    rotate_left
    · (intro w hSw; (try dsimp only at hSw); (try go_split_ands); go_simp <;> with_reducible rfl)
    try simp only [Act.put, List.setIfInBounds_toArray, List.set_cons_zero, List.set_cons_succ]
    refine wpAnyH_done (by kernel_rfl) ?_ _
    go_wp2_with fail
    go_ret
    exact ⟨rfl, hBW.out.trans (hHeld.mono hBW.out.size)⟩

set_option maxRecDepth 10000 in
set_option maxHeartbeats 4000000 in
theorem pmemNew_yy (n : Nat) (h1 : 1 ≤ n) (h2 : n ≤ 1000) (v : Value) (l : List Nat) (w : World) (hv : KL .u64 w v l) (hl : 1 ≤ l.length ∧ l.length ≤ 40) :
    Calls Try.prog 4 #[.int .i64 (n : Int), v] w fun e w' => e = .returned (.bool true) ∧ Below w.heap.size w w' := by
  have hAw := awake3_any w
  obtain ⟨hl1, hl2⟩ := hl
  obtain ⟨m, hm⟩ : ∃ m, l.length = m := ⟨_, rfl⟩
  have hvh := Lib.hid hv
  obtain ⟨A, cap, rfl, _⟩ := hv.form hm
  have hm1 : ¬ (m : Int) = 0 := by omega
  have hm2 : (m : Int) ≤ 40 := by omega
  replace hm := Lib.hid hm
  clear hv
  have q1 : (n : Int) ≤ 1000 := by omega
  have q2 : ¬ (n : Int) < 1 := by omega
  have q3 : ¬ 65536 < (n : Int) := by omega
  go_enter Try.func4, Try.ntmps4
  go_wp2_with (first
    | (go_at_call 11; refine hAw.mono ?_; rintro e w1 ⟨rfl, hb1⟩; clear hAw)
    | (go_at_call 28; refine (dNew n w1 h1 (by omega)).mono ?_; rintro e w2 ⟨B, F, rfl, hD, hF, hb2⟩
       have hb2w := hb1.trans (hb2.mono hb1.size)
       replace hF := Lib.hid hF
       clear hb2)
    | (go_at_call 13; refine (dOpen _ l _ hl1 (by omega) (hvh.out.keep hb2w)).mono ?_; rintro e w3 ⟨B2, F2, rfl, hO, hF2, hb3⟩
       have hb3w := hb2w.trans (hb3.mono hb2w.size)
       replace hF2 := Lib.hid hF2
       replace hD := hD.keep hb3)
    | (go_at_call 25; refine (dImage B2 F2 (dv0 l) _ hO (by show l.length ≤ 1000; omega)).mono ?_; rintro e w4 ⟨vi, rfl, hoI, hb4⟩
       replace hO := hO.keep hb4
       have hvi := hoI.kl
       obtain ⟨Ai, ci, rfl, _⟩ := hoI.form
       have hb4w := hb3w.trans (hb4.mono hb3w.size)
       replace hD := hD.keep hb4
       clear hoI)
    | (go_at_call 24; refine (words_any _ _ l l _ (by omega) hvi (hvh.out.keep hb4w)).mono ?_; rintro e w5 ⟨rfl, hb5⟩
       replace hO := hO.keep hb5
       have hb5w := hb4w.trans (hb5.mono hb4w.size)
       replace hD := hD.keep hb5
       rw [show decide (l = l) = true by simp]
       clear hvi)
    | (go_at_call 27; refine (dWords B2 F2 (dv0 l) _ hO).mono ?_; rintro e w6 ⟨rfl, rfl⟩; rw [show (dv0 l).L.length = m from hm.out]))
  have hMk := make_run n (by omega)
  obtain ⟨W, hW⟩ : ∃ W, w6 = W := ⟨_, rfl⟩
  rw [hW] at hD hb5w ⊢
  have hDh := Lib.hid (fun w' (hb : Below W.heap.size W w') => hD.keep hb)
  have hBW := Lib.hid hb5w
  have hn0 := Lib.hid (show keysL (newD n).L.length (newD n).c = [] from keysL_nil (List.replicate n 0))
  have hg := Lib.hid (show GoodD (newD n) from (GoodK.zero (List.replicate n 0)).good (by rw [List.length_replicate]; omega) (by rw [List.length_replicate]; omega) (by decide))
  have hlr : (newD n).L.length = n := by simp [newD, dv0]
  clear hD hW
  go_wp2_with fail
  refine wp_region_held_drew (S := (fun w' => Below W.heap.size W w')) (by kernel_rfl) ?_ (fun hHeld => ?_)
  · (try dsimp only)
    (first | assumption | (exact (Below.refl _ _).drew) | (exact Below.trans hHeld (hb.mono (Below.size hHeld))))
  refine takeL 0 (v := ?_) rfl (by kernel_rfl) (by kernel_rfl) (by kernel_rfl) (fun _ _ _ h => h) (by rfl) (by assumption) ?_ ?_
  rotate_left
  · (intro w hSw; (try dsimp only at hSw); (try go_split_ands); go_simp <;> with_reducible rfl)
  try simp only [Act.put, List.setIfInBounds_toArray, List.set_cons_zero, List.set_cons_succ]
  refine takeL 1 (v := ?_) rfl (by kernel_rfl) (by kernel_rfl) (by kernel_rfl) (fun _ _ _ h => h) (by rfl) (by assumption) ?_ ?_
  rotate_left
  · (intro w hSw; (try dsimp only at hSw); (try go_split_ands); go_simp <;> with_reducible rfl)
  try simp only [Act.put, List.setIfInBounds_toArray, List.set_cons_zero, List.set_cons_succ]
  refine takeL 2 (v := ?_) rfl (by kernel_rfl) (by kernel_rfl) (by kernel_rfl) (fun _ _ _ h => h) (by rfl) (by assumption) ?_ ?_
  rotate_left
  · (intro w hSw; (try dsimp only at hSw); (try go_split_ands); go_simp <;> with_reducible rfl)
  try simp only [Act.put, List.setIfInBounds_toArray, List.set_cons_zero, List.set_cons_succ]
  refine takeL 4 (v := ?_) rfl (by kernel_rfl) (by kernel_rfl) (by kernel_rfl) (fun _ _ _ h => h) (by rfl) (by assumption) ?_ ?_
  rotate_left
  · (intro w hSw; (try dsimp only at hSw); (try go_split_ands); go_simp <;> with_reducible rfl)
  try simp only [Act.put, List.setIfInBounds_toArray, List.set_cons_zero, List.set_cons_succ]
  refine oneL 3 rfl (by kernel_rfl) (fun K hK => ?_)
  go_simp
  ((with_reducible refine (dWords B F (newD n) _ (hDh.out _ (by assumption))).mono ?_); rintro e w8 ⟨rfl, rfl⟩; rw [hlr])
  refine hK.out _ _ ?_ (fun hHeld2 => ?_)
  · (try dsimp only)
    (first | assumption | (exact (Below.refl _ _).drew) | (exact Below.trans hHeld (hb.mono (Below.size hHeld))))
  clear hK K hHeld
  have hHeld := hHeld2
  clear hHeld2
  try simp only [Act.put, List.setIfInBounds_toArray, List.set_cons_zero, List.set_cons_succ]
  refine takeL 5 (v := ?_) rfl (by kernel_rfl) (by kernel_rfl) (by kernel_rfl) (fun _ _ _ h => h) (by rfl) (by assumption) ?_ ?_
  rotate_left
  · (intro w hSw; (try dsimp only at hSw); (try go_split_ands); go_simp <;> with_reducible rfl)
  try simp only [Act.put, List.setIfInBounds_toArray, List.set_cons_zero, List.set_cons_succ]
  refine takeL 6 (v := ?_) rfl (by kernel_rfl) (by kernel_rfl) (by kernel_rfl) (fun _ _ _ h => h) (by rfl) (by assumption) ?_ ?_
  rotate_left
  · (intro w hSw; (try dsimp only at hSw); (try go_split_ands); go_simp <;> with_reducible rfl)
  try simp only [Act.put, List.setIfInBounds_toArray, List.set_cons_zero, List.set_cons_succ]
  refine takeL 7 (v := ?_) rfl (by kernel_rfl) (by kernel_rfl) (by kernel_rfl) (fun _ _ _ h => h) (by rfl) (by assumption) ?_ ?_
  rotate_left
  · (intro w hSw; (try dsimp only at hSw); (try go_split_ands); go_simp <;> with_reducible rfl)
  try simp only [Act.put, List.setIfInBounds_toArray, List.set_cons_zero, List.set_cons_succ]
  refine takeL 8 (v := ?_) rfl (by kernel_rfl) (by kernel_rfl) (by kernel_rfl) (fun _ _ _ h => h) (by rfl) (by assumption) ?_ ?_
  rotate_left
  · (intro w hSw; (try dsimp only at hSw); (try go_split_ands); go_simp <;> with_reducible rfl)
  try simp only [Act.put, List.setIfInBounds_toArray, List.set_cons_zero, List.set_cons_succ]
  refine takeL 10 (v := ?_) rfl (by kernel_rfl) (by kernel_rfl) (by kernel_rfl) (fun _ _ _ h => h) (by rfl) (by assumption) ?_ ?_
  rotate_left
  · (intro w hSw; (try dsimp only at hSw); (try go_split_ands); go_simp <;> with_reducible rfl)
  try simp only [Act.put, List.setIfInBounds_toArray, List.set_cons_zero, List.set_cons_succ]
  refine twoL 9 11 rfl rfl (by kernel_rfl) (fun K hK => ?_) (fun K hK => ?_)
  · go_simp
    ((with_reducible refine (dImage B F (newD n) _ (hDh.out _ (by assumption)) (by rw [hlr]; omega)).mono ?_); rintro e w9 ⟨v9, rfl, ho, hb⟩; have hi9 : KL .u64 w9 v9 (List.replicate n 0) := ho.kl; obtain ⟨A9, c9, rfl, _⟩ := hi9.form (List.length_replicate ..); clear ho; (try replace hz := hz.keep hb))
    refine hK.out _ _ ?_ (fun hHeld2 => ?_)
    · (try dsimp only)
      (first | assumption | (exact (Below.refl _ _).drew) | (exact Below.trans hHeld (hb.mono (Below.size hHeld))))
    clear hK K hHeld
    have hHeld := hHeld2
    clear hHeld2
    try simp only [Act.put, List.setIfInBounds_toArray, List.set_cons_zero, List.set_cons_succ]
    refine oneL 11 rfl (by kernel_rfl) (fun K hK => ?_)
    go_simp
    (have hz := kl_madeH hHeld n; have hb := below_madeH hHeld n; (try change KL .u64 _ (.slice (some ⟨W.heap.size, 0, none⟩) n n) _ at hz); (try replace hi9 := hi9.keep hb))
    refine hK.out _ _ ?_ (fun hHeld2 => ?_)
    · (try dsimp only)
      (first | assumption | (exact (Below.refl _ _).drew) | (exact Below.trans hHeld (hb.mono (Below.size hHeld))))
    clear hK K hHeld
    have hHeld := hHeld2
    clear hHeld2
    try simp only [Act.put, List.setIfInBounds_toArray, List.set_cons_zero, List.set_cons_succ]
    refine oneL 12 rfl (by kernel_rfl) (fun K hK => ?_)
    go_simp
    ((with_reducible refine (words_any _ _ (List.replicate n 0) (List.replicate n 0) _ (by rw [List.length_replicate]; omega) hi9 hz).mono ?_); rintro e w10 ⟨rfl, hb⟩; rw [show decide (List.replicate n (0 : Nat) = List.replicate n 0) = true by simp]; clear hi9 hz)
    refine hK.out _ _ ?_ (fun hHeld2 => ?_)
    · (try dsimp only)
      (first | assumption | (exact (Below.refl _ _).drew) | (exact Below.trans hHeld (hb.mono (Below.size hHeld))))
    clear hK K hHeld
    have hHeld := hHeld2
    clear hHeld2
    try simp only [Act.put, List.setIfInBounds_toArray, List.set_cons_zero, List.set_cons_succ]
    refine takeL 13 (v := ?_) rfl (by kernel_rfl) (by kernel_rfl) (by kernel_rfl) (fun _ _ _ h => h) (by rfl) (by assumption) ?_ ?_
    rotate_left
    · (intro w hSw; (try dsimp only at hSw); (try go_split_ands); go_simp <;> with_reducible rfl)
    try simp only [Act.put, List.setIfInBounds_toArray, List.set_cons_zero, List.set_cons_succ]
    refine takeL 14 (v := ?_) rfl (by kernel_rfl) (by kernel_rfl) (by kernel_rfl) (fun _ _ _ h => h) (by rfl) (by assumption) ?_ ?_
    rotate_left
    · (intro w hSw; (try dsimp only at hSw); (try go_split_ands); go_simp <;> with_reducible rfl)
    try simp only [Act.put, List.setIfInBounds_toArray, List.set_cons_zero, List.set_cons_succ]
    refine takeL 15 (v := ?_) rfl (by kernel_rfl) (by kernel_rfl) (by kernel_rfl) (fun _ _ _ h => h) (by rfl) (by assumption) ?_ ?_
    rotate_left
    · (intro w hSw; (try dsimp only at hSw); (try go_split_ands); go_simp <;> with_reducible rfl)
    try simp only [Act.put, List.setIfInBounds_toArray, List.set_cons_zero, List.set_cons_succ]
    refine oneL 16 rfl (by kernel_rfl) (fun K hK => ?_)
    go_simp
    ((with_reducible refine (dSteps B F (newD n) _ (hDh.out _ (by assumption))).mono ?_); rintro e w8 ⟨rfl, rfl⟩; rw [show (newD n).steps = 0 from rfl])
    refine hK.out _ _ ?_ (fun hHeld2 => ?_)
    · (try dsimp only)
      (first | assumption | (exact (Below.refl _ _).drew) | (exact Below.trans hHeld (hb.mono (Below.size hHeld))))
    clear hK K hHeld
    have hHeld := hHeld2
    clear hHeld2
    try simp only [Act.put, List.setIfInBounds_toArray, List.set_cons_zero, List.set_cons_succ]
    refine takeL 17 (v := ?_) rfl (by kernel_rfl) (by kernel_rfl) (by kernel_rfl) (fun _ _ _ h => h) (by rfl) (by assumption) ?_ ?_
    rotate_left
    · (intro w hSw; (try dsimp only at hSw); (try go_split_ands); go_simp <;> with_reducible rfl)
    try simp only [Act.put, List.setIfInBounds_toArray, List.set_cons_zero, List.set_cons_succ]
    refine takeL 18 (v := ?_) rfl (by kernel_rfl) (by kernel_rfl) (by kernel_rfl) (fun _ _ _ h => h) (by rfl) (by assumption) ?_ ?_
    rotate_left
    · (intro w hSw; (try dsimp only at hSw); (try go_split_ands); go_simp <;> with_reducible rfl)
    try simp only [Act.put, List.setIfInBounds_toArray, List.set_cons_zero, List.set_cons_succ]
    refine takeL 19 (v := ?_) rfl (by kernel_rfl) (by kernel_rfl) (by kernel_rfl) (fun _ _ _ h => h) (by rfl) (by assumption) ?_ ?_
    rotate_left
    · (intro w hSw; (try dsimp only at hSw); (try go_split_ands); go_simp <;> with_reducible rfl)
    try simp only [Act.put, List.setIfInBounds_toArray, List.set_cons_zero, List.set_cons_succ]
    refine takeL 20 (v := ?_) rfl (by kernel_rfl) (by kernel_rfl) (by kernel_rfl) (fun _ _ _ h => h) (by rfl) (by assumption) ?_ ?_
    rotate_left
    · (intro w hSw; (try dsimp only at hSw); (try go_split_ands); go_simp <;> with_reducible rfl)
    try simp only [Act.put, List.setIfInBounds_toArray, List.set_cons_zero, List.set_cons_succ]
    refine oneL 21 rfl (by kernel_rfl) (fun K hK => ?_)
    go_simp
    ((with_reducible refine (dDead B F (newD n) _ (hDh.out _ (by assumption))).mono ?_); rintro e w8 ⟨rfl, rfl⟩; rw [show (newD n).dead = false from rfl])
    refine hK.out _ _ ?_ (fun hHeld2 => ?_)
    · (try dsimp only)
      (first | assumption | (exact (Below.refl _ _).drew) | (exact Below.trans hHeld (hb.mono (Below.size hHeld))))
    clear hK K hHeld
    have hHeld := hHeld2
    clear hHeld2
    try simp only [Act.put, List.setIfInBounds_toArray, List.set_cons_zero, List.set_cons_succ]
    refine takeL 22 (v := ?_) rfl (by kernel_rfl) (by kernel_rfl) (by kernel_rfl) (fun _ _ _ h => h) (by rfl) (by assumption) ?_ ?_
    rotate_left
    · (intro w hSw; (try dsimp only at hSw); (try go_split_ands); go_simp <;> with_reducible rfl)
    try simp only [Act.put, List.setIfInBounds_toArray, List.set_cons_zero, List.set_cons_succ]
    refine takeL 23 (v := ?_) rfl (by kernel_rfl) (by kernel_rfl) (by kernel_rfl) (fun _ _ _ h => h) (by rfl) (by assumption) ?_ ?_
    rotate_left
    · (intro w hSw; (try dsimp only at hSw); (try go_split_ands); go_simp <;> with_reducible rfl)
    try simp only [Act.put, List.setIfInBounds_toArray, List.set_cons_zero, List.set_cons_succ]
    refine takeL 24 (v := ?_) rfl (by kernel_rfl) (by kernel_rfl) (by kernel_rfl) (fun _ _ _ h => h) (by rfl) (by assumption) ?_ ?_
    rotate_left
    · (intro w hSw; (try dsimp only at hSw); (try go_split_ands); go_simp <;> with_reducible rfl)
    try simp only [Act.put, List.setIfInBounds_toArray, List.set_cons_zero, List.set_cons_succ]
    refine takeL 25 (v := ?_) rfl (by kernel_rfl) (by kernel_rfl) (by kernel_rfl) (fun _ _ _ h => h) (by rfl) (by assumption) ?_ ?_
    rotate_left
    · (intro w hSw; (try dsimp only at hSw); (try go_split_ands); go_simp <;> with_reducible rfl)
    try simp only [Act.put, List.setIfInBounds_toArray, List.set_cons_zero, List.set_cons_succ]
    refine oneL 26 rfl (by kernel_rfl) (fun K hK => ?_)
    go_simp
    ((with_reducible refine (dDirty B F (newD n) _ (hDh.out _ (by assumption)) hg.out).mono ?_); rintro e w11 ⟨v11, rfl, ho, hb⟩; (rw [show keysL (newD n).L.length (newD n).c = [] from hn0.out] at ho); obtain ⟨A11, c11, rfl, _⟩ := (ho.el iE_len).form rfl; clear ho)
    refine hK.out _ _ ?_ (fun hHeld2 => ?_)
    · (try dsimp only)
      (first | assumption | (exact (Below.refl _ _).drew) | (exact Below.trans hHeld (hb.mono (Below.size hHeld))))
    clear hK K hHeld
    have hHeld := hHeld2
    clear hHeld2
    try simp only [Act.put, List.setIfInBounds_toArray, List.set_cons_zero, List.set_cons_succ]
    refine takeL 27 (v := ?_) rfl (by kernel_rfl) (by kernel_rfl) (by kernel_rfl) (fun _ _ _ h => h) (by rfl) (by assumption) ?_ ?_
    rotate_left
    · (intro w hSw; (try dsimp only at hSw); (try go_split_ands); go_simp <;> with_reducible rfl)
    try simp only [Act.put, List.setIfInBounds_toArray, List.set_cons_zero, List.set_cons_succ]
    refine takeL 28 (v := ?_) rfl (by kernel_rfl) (by kernel_rfl) (by kernel_rfl) (fun _ _ _ h => h) (by rfl) (by assumption) ?_ ?_
    rotate_left
    · (intro w hSw; (try dsimp only at hSw); (try go_split_ands); go_simp <;> with_reducible rfl)
    try simp only [Act.put, List.setIfInBounds_toArray, List.set_cons_zero, List.set_cons_succ]
    refine takeL 29 (v := ?_) rfl (by kernel_rfl) (by kernel_rfl) (by kernel_rfl) (fun _ _ _ h => h) (by rfl) (by assumption) ?_ ?_
    rotate_left
    · (intro w hSw; (try dsimp only at hSw); (try go_split_ands); go_simp <;> with_reducible rfl)
    try simp only [Act.put, List.setIfInBounds_toArray, List.set_cons_zero, List.set_cons_succ]
    refine takeL 30 (v := ?_) rfl (by kernel_rfl) (by kernel_rfl) (by kernel_rfl) (fun _ _ _ h => h) (by rfl) (by assumption) ?_ ?_
    rotate_left
    · (intro w hSw; (try dsimp only at hSw); (try go_split_ands); go_simp <;> with_reducible rfl)
    try simp only [Act.put, List.setIfInBounds_toArray, List.set_cons_zero, List.set_cons_succ]
    refine wpAnyH_done (by kernel_rfl) ?_ _
    go_wp2_with fail
    go_ret
    exact ⟨rfl, hBW.out.trans (hHeld.mono hBW.out.size)⟩
  · go_simp
    (have hz := kl_madeH hHeld n; have hb := below_madeH hHeld n; (try change KL .u64 _ (.slice (some ⟨W.heap.size, 0, none⟩) n n) _ at hz); (try replace hi9 := hi9.keep hb))
    refine hK.out _ _ ?_ (fun hHeld2 => ?_)
    · (try dsimp only)
      (first | assumption | (exact (Below.refl _ _).drew) | (exact Below.trans hHeld (hb.mono (Below.size hHeld))))
    clear hK K hHeld
    have hHeld := hHeld2
    clear hHeld2
    try simp only [Act.put, List.setIfInBounds_toArray, List.set_cons_zero, List.set_cons_succ]
    refine oneL 9 rfl (by kernel_rfl) (fun K hK => ?_)
    go_simp
    ((with_reducible refine (dImage B F (newD n) _ (hDh.out _ (by assumption)) (by rw [hlr]; omega)).mono ?_); rintro e w9 ⟨v9, rfl, ho, hb⟩; have hi9 : KL .u64 w9 v9 (List.replicate n 0) := ho.kl; obtain ⟨A9, c9, rfl, _⟩ := hi9.form (List.length_replicate ..); clear ho; (try replace hz := hz.keep hb))
    refine hK.out _ _ ?_ (fun hHeld2 => ?_)
    · (try dsimp only)
      (first | assumption | (exact (Below.refl _ _).drew) | (exact Below.trans hHeld (hb.mono (Below.size hHeld))))
    clear hK K hHeld
    have hHeld := hHeld2
    clear hHeld2
    try simp only [Act.put, List.setIfInBounds_toArray, List.set_cons_zero, List.set_cons_succ]
    refine oneL 12 rfl (by kernel_rfl) (fun K hK => ?_)
    go_simp
    ((with_reducible refine (words_any _ _ (List.replicate n 0) (List.replicate n 0) _ (by rw [List.length_replicate]; omega) hi9 hz).mono ?_); rintro e w10 ⟨rfl, hb⟩; rw [show decide (List.replicate n (0 : Nat) = List.replicate n 0) = true by simp]; clear hi9 hz)
    refine hK.out _ _ ?_ (fun hHeld2 => ?_)
    · (try dsimp only)
      (first | assumption | (exact (Below.refl _ _).drew) | (exact Below.trans hHeld (hb.mono (Below.size hHeld))))
    clear hK K hHeld
    have hHeld := hHeld2
    clear hHeld2
    try simp only [Act.put, List.setIfInBounds_toArray, List.set_cons_zero, List.set_cons_succ]
    refine takeL 13 (v := ?_) rfl (by kernel_rfl) (by kernel_rfl) (by kernel_rfl) (fun _ _ _ h => h) (by rfl) (by assumption) ?_ ?_
    rotate_left
    · (intro w hSw; (try dsimp only at hSw); (try go_split_ands); go_simp <;> with_reducible rfl)
    try simp only [Act.put, List.setIfInBounds_toArray, List.set_cons_zero, List.set_cons_succ]
    refine takeL 14 (v := ?_) rfl (by kernel_rfl) (by kernel_rfl) (by kernel_rfl) (fun _ _ _ h => h) (by rfl) (by assumption) ?_ ?_
    rotate_left
    · (intro w hSw; (try dsimp only at hSw); (try go_split_ands); go_simp <;> with_reducible rfl)
    try simp only [Act.put, List.setIfInBounds_toArray, List.set_cons_zero, List.set_cons_succ]
    refine takeL 15 (v := ?_) rfl (by kernel_rfl) (by kernel_rfl) (by kernel_rfl) (fun _ _ _ h => h) (by rfl) (by assumption) ?_ ?_
    rotate_left
    · (intro w hSw; (try dsimp only at hSw); (try go_split_ands); go_simp <;> with_reducible rfl)
    try simp only [Act.put, List.setIfInBounds_toArray, List.set_cons_zero, List.set_cons_succ]
    refine oneL 16 rfl (by kernel_rfl) (fun K hK => ?_)
    go_simp
    ((with_reducible refine (dSteps B F (newD n) _ (hDh.out _ (by assumption))).mono ?_); rintro e w8 ⟨rfl, rfl⟩; rw [show (newD n).steps = 0 from rfl])
    refine hK.out _ _ ?_ (fun hHeld2 => ?_)
    · (try dsimp only)
      (first | assumption | (exact (Below.refl _ _).drew) | (exact Below.trans hHeld (hb.mono (Below.size hHeld))))
    clear hK K hHeld
    have hHeld := hHeld2
    clear hHeld2
    try simp only [Act.put, List.setIfInBounds_toArray, List.set_cons_zero, List.set_cons_succ]
    refine takeL 17 (v := ?_) rfl (by kernel_rfl) (by kernel_rfl) (by kernel_rfl) (fun _ _ _ h => h) (by rfl) (by assumption) ?_ ?_
    rotate_left
    · (intro w hSw; (try dsimp only at hSw); (try go_split_ands); go_simp <;> with_reducible rfl)
    try simp only [Act.put, List.setIfInBounds_toArray, List.set_cons_zero, List.set_cons_succ]
    refine takeL 18 (v := ?_) rfl (by kernel_rfl) (by kernel_rfl) (by kernel_rfl) (fun _ _ _ h => h) (by rfl) (by assumption) ?_ ?_
    rotate_left
    · (intro w hSw; (try dsimp only at hSw); (try go_split_ands); go_simp <;> with_reducible rfl)
    try simp only [Act.put, List.setIfInBounds_toArray, List.set_cons_zero, List.set_cons_succ]
    refine takeL 19 (v := ?_) rfl (by kernel_rfl) (by kernel_rfl) (by kernel_rfl) (fun _ _ _ h => h) (by rfl) (by assumption) ?_ ?_
    rotate_left
    · (intro w hSw; (try dsimp only at hSw); (try go_split_ands); go_simp <;> with_reducible rfl)
    try simp only [Act.put, List.setIfInBounds_toArray, List.set_cons_zero, List.set_cons_succ]
    refine takeL 20 (v := ?_) rfl (by kernel_rfl) (by kernel_rfl) (by kernel_rfl) (fun _ _ _ h => h) (by rfl) (by assumption) ?_ ?_
    rotate_left
    · (intro w hSw; (try dsimp only at hSw); (try go_split_ands); go_simp <;> with_reducible rfl)
    try simp only [Act.put, List.setIfInBounds_toArray, List.set_cons_zero, List.set_cons_succ]
    refine oneL 21 rfl (by kernel_rfl) (fun K hK => ?_)
    go_simp
    ((with_reducible refine (dDead B F (newD n) _ (hDh.out _ (by assumption))).mono ?_); rintro e w8 ⟨rfl, rfl⟩; rw [show (newD n).dead = false from rfl])
    refine hK.out _ _ ?_ (fun hHeld2 => ?_)
    · (try dsimp only)
      (first | assumption | (exact (Below.refl _ _).drew) | (exact Below.trans hHeld (hb.mono (Below.size hHeld))))
    clear hK K hHeld
    have hHeld := hHeld2
    clear hHeld2
    try simp only [Act.put, List.setIfInBounds_toArray, List.set_cons_zero, List.set_cons_succ]
    refine takeL 22 (v := ?_) rfl (by kernel_rfl) (by kernel_rfl) (by kernel_rfl) (fun _ _ _ h => h) (by rfl) (by assumption) ?_ ?_
    rotate_left
    · (intro w hSw; (try dsimp only at hSw); (try go_split_ands); go_simp <;> with_reducible rfl)
    try simp only [Act.put, List.setIfInBounds_toArray, List.set_cons_zero, List.set_cons_succ]
    refine takeL 23 (v := ?_) rfl (by kernel_rfl) (by kernel_rfl) (by kernel_rfl) (fun _ _ _ h => h) (by rfl) (by assumption) ?_ ?_
    rotate_left
    · (intro w hSw; (try dsimp only at hSw); (try go_split_ands); go_simp <;> with_reducible rfl)
    try simp only [Act.put, List.setIfInBounds_toArray, List.set_cons_zero, List.set_cons_succ]
    refine takeL 24 (v := ?_) rfl (by kernel_rfl) (by kernel_rfl) (by kernel_rfl) (fun _ _ _ h => h) (by rfl) (by assumption) ?_ ?_
    rotate_left
    · (intro w hSw; (try dsimp only at hSw); (try go_split_ands); go_simp <;> with_reducible rfl)
    try simp only [Act.put, List.setIfInBounds_toArray, List.set_cons_zero, List.set_cons_succ]
    refine takeL 25 (v := ?_) rfl (by kernel_rfl) (by kernel_rfl) (by kernel_rfl) (fun _ _ _ h => h) (by rfl) (by assumption) ?_ ?_
    rotate_left
    · (intro w hSw; (try dsimp only at hSw); (try go_split_ands); go_simp <;> with_reducible rfl)
    try simp only [Act.put, List.setIfInBounds_toArray, List.set_cons_zero, List.set_cons_succ]
    refine oneL 26 rfl (by kernel_rfl) (fun K hK => ?_)
    go_simp
    ((with_reducible refine (dDirty B F (newD n) _ (hDh.out _ (by assumption)) hg.out).mono ?_); rintro e w11 ⟨v11, rfl, ho, hb⟩; (rw [show keysL (newD n).L.length (newD n).c = [] from hn0.out] at ho); obtain ⟨A11, c11, rfl, _⟩ := (ho.el iE_len).form rfl; clear ho)
    refine hK.out _ _ ?_ (fun hHeld2 => ?_)
    · (try dsimp only)
      (first | assumption | (exact (Below.refl _ _).drew) | (exact Below.trans hHeld (hb.mono (Below.size hHeld))))
    clear hK K hHeld
    have hHeld := hHeld2
    clear hHeld2
    try simp only [Act.put, List.setIfInBounds_toArray, List.set_cons_zero, List.set_cons_succ]
    refine takeL 27 (v := ?_) rfl (by kernel_rfl) (by kernel_rfl) (by kernel_rfl) (fun _ _ _ h => h) (by rfl) (by assumption) ?_ ?_
    rotate_left
    · (intro w hSw; (try dsimp only at hSw); (try go_split_ands); go_simp <;> with_reducible rfl)
    try simp only [Act.put, List.setIfInBounds_toArray, List.set_cons_zero, List.set_cons_succ]
    refine takeL 28 (v := ?_) rfl (by kernel_rfl) (by kernel_rfl) (by kernel_rfl) (fun _ _ _ h => h) (by rfl) (by assumption) ?_ ?_
    rotate_left
    · (intro w hSw; (try dsimp only at hSw); (try go_split_ands); go_simp <;> with_reducible rfl)
    try simp only [Act.put, List.setIfInBounds_toArray, List.set_cons_zero, List.set_cons_succ]
    refine takeL 29 (v := ?_) rfl (by kernel_rfl) (by kernel_rfl) (by kernel_rfl) (fun _ _ _ h => h) (by rfl) (by assumption) ?_ ?_
    rotate_left
    · (intro w hSw; (try dsimp only at hSw); (try go_split_ands); go_simp <;> with_reducible rfl)
    try simp only [Act.put, List.setIfInBounds_toArray, List.set_cons_zero, List.set_cons_succ]
    refine takeL 30 (v := ?_) rfl (by kernel_rfl) (by kernel_rfl) (by kernel_rfl) (fun _ _ _ h => h) (by rfl) (by assumption) ?_ ?_
    rotate_left
    · (intro w hSw; (try dsimp only at hSw); (try go_split_ands); go_simp <;> with_reducible rfl)
    try simp only [Act.put, List.setIfInBounds_toArray, List.set_cons_zero, List.set_cons_succ]
    refine wpAnyH_done (by kernel_rfl) ?_ _
    go_wp2_with fail
    go_ret
    exact ⟨rfl, hBW.out.trans (hHeld.mono hBW.out.size)⟩

theorem pmemNew (words : Int) (v : Value) (l : List Nat) (w : World) (hv : KL .u64 w v l) (hz : l.length ≤ 140737488355328) :
    Calls Try.prog 4 #[.int .i64 words, v] w fun e w' => e = .returned (.bool true) ∧ Below w.heap.size w w' := by
  by_cases hf : (1000 < words ∧ words ≤ 65536) ∨ 40 < l.length
  · exact pmemNew_far words v l w hv hz hf
  · by_cases h1 : 1 ≤ words ∧ words ≤ 1000
    · obtain ⟨n, rfl⟩ := Int.eq_ofNat_of_zero_le (show 0 ≤ words by omega)
      by_cases hl : l = []
      · exact pmemNew_yn n (by omega) (by omega) v l w hv hl
      · have : 0 < l.length := List.length_pos_iff.2 hl
        exact pmemNew_yy n (by omega) (by omega) v l w hv ⟨by omega, by omega⟩
    · by_cases hl : l = []
      · exact pmemNew_nn words (by omega) v l w hv hl
      · have : 0 < l.length := List.length_pos_iff.2 hl
        exact pmemNew_ny words (by omega) v l w hv ⟨by omega, by omega⟩
end Go.Proofs.Ytcemiclbeocnjaa
