/-
  The laws of package piece: PieceCuts.
-/
import Derived.Test.YtddfhgdejlkdgaaPc8
import Derived.Test.YtddfhgdejlkdgaaPcO
import Derived.Test.YtddfhgdejlkdgaaRegX
set_option linter.unusedVariables false
namespace Go.Proofs.Ytddfhgdejlkdgaa
open Go.RowKit

/-- what is cut, in one place -/
structure CutOk (l : List Sp) (T f m : Int) (c : List Sp) : Prop where
  tot : totS c = m
  pb : PBs c
  len : c.length ≤ l.length
  at_ : ∀ i, 0 ≤ i → i < m → atL c i = atL l (f + i)
  twice : ∀ u n, 0 ≤ u → 1 ≤ n → u + n ≤ m → cutL c (u, n) = cutL l (f + u, n)
theorem cut_in {l : List Sp} {f m : Int} (h1 : 0 ≤ f) (h2 : 1 ≤ m) (h3 : f + m ≤ totS l) : cutL l (f, m) = interL (f, m) 0 l := by
  unfold cutL
  rw [if_neg (by simp only []; omega), if_pos (by simp only []; omega)]
theorem cut_ok {l : List Sp} {f m : Int} (hl : PBs l) (h1 : 0 ≤ f) (h2 : 1 ≤ m) (h3 : f + m ≤ totS l) : CutOk l (totS l) f m (cutL l (f, m)) := by
  have ht : totS (cutL l (f, m)) = m := by
    rw [cut_in h1 h2 h3, interL_tot _ (by simp only []; omega) l 0 hl.np]
    unfold posS; simp only []; omega
  have htw : ∀ u n, 0 ≤ u → 1 ≤ n → u + n ≤ m → cutL (cutL l (f, m)) (u, n) = cutL l (f + u, n) := fun u n k1 k2 k3 => by
    rw [cut_in (l := cutL l (f, m)) k1 k2 (by rw [ht]; exact k3), cut_in (l := l) (f := f + u) (by omega) k2 (by omega), cut_in h1 h2 h3]
    have := interL_twice (f, m) (u, n) k1 k3 l 0 hl.np
    rw [show posS (f, m) 0 = 0 by unfold posS; simp only []; omega] at this
    exact this
  obtain ⟨p1, p2⟩ := cut_pb (f, m) hl
  refine ⟨ht, p1, p2, fun i k1 k2 => ?_, htw⟩
  unfold atL
  rw [htw i 1 k1 (by omega) (by omega)]
theorem cut_over {l : List Sp} {f m : Int} (h1 : 0 ≤ f) (h2 : 1 ≤ m) (h3 : totS l < f + m) : cutL l (f, m) = [] := by
  unfold cutL
  rw [if_neg (by simp only []; omega), if_neg (by simp only []; omega)]

theorem pieceCuts_no (v : Value) (l : List Sp) (a b c d : Nat) (w : World) (hl : PI l) (hv : PL w v l) (hf : fewL l = false) :
    Calls Try.prog 5 #[v, .int .u8 (a : Nat), .int .u8 (b : Nat), .int .u8 (c : Nat), .int .u8 (d : Nat)] w fun e w' => e = .returned (.bool true) ∧ Below w.heap.size w w' := by
  have hF := Lib.hid (fun w1 (hb : Below w.heap.size w w1) => few_any v l w1 (hv.keep hb) hl.1)
  rw [hf] at hF
  clear hf hv hl
  go_enter Try.func5, Try.ntmps5
  go_wp2_with fail
  refine (awake14 _).mono ?_
  rintro e w1 ⟨rfl, hb1⟩
  go_wp2_with fail
  refine (hF.out _ hb1).mono ?_
  rintro e w2 ⟨rfl, hb2⟩
  have hB2 := hb1.trans (hb2.mono hb1.size)
  go_wp2_with fail
  go_ret
  exact ⟨rfl, hB2⟩
theorem pieceCuts_nil (v : Value) (l : List Sp) (a b c d : Nat) (w : World) (hl : PI l) (hv : PL w v l) (hf : fewL l = true) (hT : totS l < 1) :
    Calls Try.prog 5 #[v, .int .u8 (a : Nat), .int .u8 (b : Nat), .int .u8 (c : Nat), .int .u8 (d : Nat)] w fun e w' => e = .returned (.bool true) ∧ Below w.heap.size w w' := by
  obtain ⟨f1, f2, f3⟩ := few_of hf
  have hF := Lib.hid (fun w1 (hb : Below w.heap.size w w1) => few_any v l w1 (hv.keep hb) hl.1)
  rw [hf] at hF
  have hTt := Lib.hid (fun w1 (hb : Below w.heap.size w w1) => total_any v l w1 f2 (by omega) (hv.keep hb))
  generalize totS l = T at *
  clear hf hv hl f1 f2 f3
  go_enter Try.func5, Try.ntmps5
  go_wp2_with fail
  refine (awake14 _).mono ?_
  rintro e w1 ⟨rfl, hb1⟩
  go_wp2_with fail
  refine (hF.out _ hb1).mono ?_
  rintro e w2 ⟨rfl, hb2⟩
  have hB2 := hb1.trans (hb2.mono hb1.size)
  go_wp2_with fail
  refine (hTt.out _ hB2).mono ?_
  rintro e w3 ⟨rfl, hb3⟩
  have hB3 := hB2.trans (hb3.mono hB2.size)
  go_wp2_with fail
  go_ret
  exact ⟨rfl, hB3⟩
set_option maxRecDepth 10000 in
set_option maxHeartbeats 4000000 in
theorem pieceCuts_yes (v : Value) (l : List Sp) (a b c d : Nat) (w : World) (hl : PI l) (hv : PL w v l) (hf : fewL l = true) (hT : 1 ≤ totS l) (ha : a < 256) (hb : b < 256) (hc : c < 256) (hd : d < 256) :
    Calls Try.prog 5 #[v, .int .u8 (a : Nat), .int .u8 (b : Nat), .int .u8 (c : Nat), .int .u8 (d : Nat)] w fun e w' => e = .returned (.bool true) ∧ Below w.heap.size w w' := by
  obtain ⟨f1, f2, f3⟩ := few_of hf
  have hF := Lib.hid (fun w1 (hb : Below w.heap.size w w1) => few_any v l w1 (hv.keep hb) hl.1)
  rw [hf] at hF
  have hTt := Lib.hid (fun w1 (hb : Below w.heap.size w w1) => total_any v l w1 f2 (by omega) (hv.keep hb))
  have hTb := PBs.tot l f1 l.length (Nat.le_refl _)
  rw [List.take_of_length_le (Nat.le_refl _)] at hTb
  have hTb2 : totS l ≤ 9000 := by omega
  clear hTb
  obtain ⟨f, hfd⟩ : ∃ f : Int, f = (a : Int) % totS l := ⟨_, rfl⟩
  have hf0 : 0 ≤ f := by rw [hfd]; exact Int.emod_nonneg _ (by omega)
  have hf1 : f < totS l := by rw [hfd]; exact Int.emod_lt_of_pos _ (by omega)
  obtain ⟨m', hmd⟩ : ∃ m' : Int, m' = (b : Int) % (totS l - f) := ⟨_, rfl⟩
  have hm0 : 0 ≤ m' := by rw [hmd]; exact Int.emod_nonneg _ (by omega)
  have hm1 : m' < totS l - f := by rw [hmd]; exact Int.emod_lt_of_pos _ (by omega)
  have hok := cut_ok f1 hf0 (show 1 ≤ 1 + m' by omega) (show f + (1 + m') ≤ totS l by omega)
  have hC1 := Lib.hid (fun w1 (hb : Below w.heap.size w w1) => cut_any v l (f, 1 + m') w1 f1 (by omega) (by simp only []; omega) (by simp only []; omega) (by simp only []; omega) (by simp only []; omega) (hv.keep hb))
  have hov := cut_over hf0 (show 1 ≤ totS l - f + 1 by omega) (show totS l < f + (totS l - f + 1) by omega)
  generalize totS l = T at *
  generalize hmm : 1 + m' = m at *
  generalize cutL l (f, m) = C at *
  have hTc := fun v w hv => total_any v C w hok.pb.sb (by have := hok.len; omega) hv
  rw [hok.tot] at hTc
  replace hTc := Lib.hid hTc
  have hA := Lib.hid (fun (k : Nat) (hk : (k : Int) < m) => show (∀ v w, PL w v C → Calls Try.prog 12 #[v, .int .i64 k] w fun e w' => e = .returned (.int .i64 (atL l (f + k))) ∧ Below w.heap.size w w') ∧ (∀ w1, Below w.heap.size w w1 → Calls Try.prog 12 #[v, .int .i64 (f + k)] w1 fun e w' => e = .returned (.int .i64 (atL l (f + k))) ∧ Below w1.heap.size w1 w') from
    ⟨fun v w hv => by have := at_any v C k w hok.pb (by have := hok.len; omega) (by omega) (by omega) hv; rwa [hok.at_ k (by omega) hk] at this,
     fun w1 hb => at_any v l (f + k) w1 f1 (by omega) (by omega) (by omega) (hv.keep hb)⟩)
  have hm1' : 1 ≤ m ∧ m ≤ 9000 := by omega
  obtain ⟨hm1a, hm1b⟩ := hm1'
  obtain ⟨u, hud⟩ : ∃ u : Int, u = (c : Int) % m := ⟨_, rfl⟩
  have hu0 : 0 ≤ u := by rw [hud]; exact Int.emod_nonneg _ (by omega)
  have hu1 : u < m := by rw [hud]; exact Int.emod_lt_of_pos _ (by omega)
  obtain ⟨n', hnd⟩ : ∃ n' : Int, n' = (d : Int) % (m - u) := ⟨_, rfl⟩
  have hn0 : 0 ≤ n' := by rw [hnd]; exact Int.emod_nonneg _ (by omega)
  have hn1 : n' < m - u := by rw [hnd]; exact Int.emod_lt_of_pos _ (by omega)
  have hC2 := fun v w hv => cut_any v C (u, 1 + n') w hok.pb (by have := hok.len; omega) (by simp only []; omega) (by simp only []; omega) (by simp only []; omega) (by simp only []; omega) hv
  have hC3 := Lib.hid (fun w1 (hb : Below w.heap.size w w1) => cut_any v l (f + u, 1 + n') w1 f1 (by omega) (by simp only []; omega) (by simp only []; omega) (by simp only []; omega) (by simp only []; omega) (hv.keep hb))
  have hC4 := fun w1 (hb : Below w.heap.size w w1) => cut_any v l (f, T - f + 1) w1 f1 (by omega) (by simp only []; omega) (by simp only []; omega) (by simp only []; omega) (by simp only []; omega) (hv.keep hb)
  rw [hok.twice u (1 + n') hu0 (by omega) (by omega)] at hC2
  rw [hov] at hC4
  replace hC2 := Lib.hid hC2
  replace hC4 := Lib.hid hC4
  have hDl : (cutL l (f + u, 1 + n')).length ≤ 1000 := by have := (cut_pb (f + u, 1 + n') f1).2; omega
  generalize cutL l (f + u, 1 + n') = D at *
  have hS := fun v u w hv hu => same_any v u D D w (by omega) hv hu
  rw [show decide (D = D) = true from by simp] at hS
  replace hS := Lib.hid hS
  generalize hnn : 1 + n' = n at *
  replace hud := Lib.hid hud
  replace hnd := Lib.hid hnd
  replace hnn := Lib.hid hnn
  replace hfd := Lib.hid hfd
  replace hmd := Lib.hid hmd
  clear hf hov hok hDl hv hl f1 f2 f3
  go_enter Try.func5, Try.ntmps5
  go_wp2_with fail
  refine (awake14 _).mono ?_
  rintro e w1 ⟨rfl, hb1⟩
  go_wp2_with fail
  refine (hF.out _ hb1).mono ?_
  rintro e w2 ⟨rfl, hb2⟩
  have hB2 := hb1.trans (hb2.mono hb1.size)
  go_wp2_with fail
  refine (hTt.out _ hB2).mono ?_
  rintro e w3 ⟨rfl, hb3⟩
  have hB3 := hB2.trans (hb3.mono hB2.size)
  clear hb1 hb2 hb3 hB2 hF hTt
  have e1 : (a : Int) % T = f := hfd.out.symm
  have e3 : (b : Int) % (T - f) = m' := hmd.out.symm
  replace hmm := Lib.hid hmm
  have kk : C2 (w3.alloc (.cells #[.int .i64 f, .int .i64 m] (24 : Nat))) w3.heap.size (.int .i64 f) (.int .i64 m) := C2.new w3 _ _ _
  have hm9 : 0 ≤ m' ∧ m' ≤ 9000 := by omega
  have e4 : wrap64 (1 + m') = 1 + m' := by unfold wrap64; omega
  go_wp2_with fail
  simp only [e1, e3, hmm.out]
  refine (hC1.out _ (hB3.alloc hB3.size _)).mono ?_
  rintro e w4 ⟨vc, rfl, ho4, hb4⟩
  have hB4 : Below w.heap.size w w4 := (hB3.alloc hB3.size _).trans (hb4.mono (by have := hB3.size; simp; omega))
  have hpc := ho4.pl
  replace kk := kk.keep hb4
  have hBd := hB4.drew
  obtain ⟨k0, k1⟩ := id kk
  clear e1 e3 e4 ho4 hb4
  go_wp2_with fail
  refine wp_region_held_drew (S := (fun w' => w'.cell? ⟨w3.heap.size, 0, none⟩ = some (.int .i64 f) ∧ w'.cell? ⟨w3.heap.size, 1, none⟩ = some (.int .i64 m) ∧ PL w' vc C ∧ Below w.heap.size w w')) (by kernel_rfl) ?_ (fun hHeld => ?_)
  · (try dsimp only)
    ((try go_split_ands); refine ⟨?_, ?_, ?_, ?_⟩ <;> first | assumption | exact hBd | (exact cellK (by assumption) hb) | (exact PL.keep (by assumption) hb) | (exact Below.trans (by assumption) (hb.mono (Below.size (by assumption)))))
  refine takeL 0 (v := ?_) rfl (by kernel_rfl) (by kernel_rfl) (by kernel_rfl) (fun _ _ _ h => h) (by rfl) (by assumption) ?_ ?_
  rotate_left
  · (intro w hSw; (try dsimp only at hSw); (try go_split_ands); go_simp <;> with_reducible rfl)
  try simp only [Act.put, List.setIfInBounds_toArray, List.set_cons_zero, List.set_cons_succ]
  refine takeL 2 (v := ?_) rfl (by kernel_rfl) (by kernel_rfl) (by kernel_rfl) (fun _ _ _ h => h) (by rfl) (by assumption) ?_ ?_
  rotate_left
  · (intro w hSw; (try dsimp only at hSw); (try go_split_ands); go_simp <;> with_reducible rfl)
  try simp only [Act.put, List.setIfInBounds_toArray, List.set_cons_zero, List.set_cons_succ]
  refine takeL 3 (v := ?_) rfl (by kernel_rfl) (by kernel_rfl) (by kernel_rfl) (fun _ _ _ h => h) (by rfl) (by assumption) ?_ ?_
  rotate_left
  · (intro w hSw; (try dsimp only at hSw); (try go_split_ands); go_simp <;> with_reducible rfl)
  try simp only [Act.put, List.setIfInBounds_toArray, List.set_cons_zero, List.set_cons_succ]
  refine oneL 1 rfl (by kernel_rfl) (fun K hK => ?_)
  go_simp
  (obtain ⟨_, _, hq, _⟩ := id hHeld; refine (hTc.out _ _ hq).mono ?_; rintro e w8 ⟨rfl, hb⟩)
  refine hK.out _ _ ?_ (fun hHeld2 => ?_)
  · (try dsimp only)
    ((try go_split_ands); refine ⟨?_, ?_, ?_, ?_⟩ <;> first | assumption | exact hBd | (exact cellK (by assumption) hb) | (exact PL.keep (by assumption) hb) | (exact Below.trans (by assumption) (hb.mono (Below.size (by assumption)))))
  clear hK K hHeld
  have hHeld := hHeld2
  clear hHeld2
  try simp only [Act.put, List.setIfInBounds_toArray, List.set_cons_zero, List.set_cons_succ]
  refine takeL 4 (v := ?_) rfl (by kernel_rfl) (by kernel_rfl) (by kernel_rfl) (fun _ _ _ h => h) (by rfl) (by assumption) ?_ ?_
  rotate_left
  · (intro w hSw; (try dsimp only at hSw); (try go_split_ands); go_simp <;> with_reducible rfl)
  try simp only [Act.put, List.setIfInBounds_toArray, List.set_cons_zero, List.set_cons_succ]
  refine wpAnyH_done (by kernel_rfl) ?_ _
  obtain ⟨d0, d1, pc, hB5⟩ := hHeld
  have hq5 : C2 _ _ _ _ := ⟨d0, d1⟩
  clear k0 k1 kk hpc hB4 hBd
  clear d0 d1
  go_wp2_with fail
  go_loopw [16] (fun x wr => ∃ k : Nat, (k : Int) ≤ m ∧ x = .int .i64 k ∧ C2 wr w3.heap.size (.int .i64 f) (.int .i64 m) ∧ PL wr vc C ∧ Below w.heap.size w wr) (fun x _ => m.toNat + 1 - (intOf x).toNat)
  case atStart => exact ⟨0, by omega, rfl, hq5, pc, hB5⟩
  case round =>
    clear hq5 pc hB5
    obtain ⟨k, hk, rfl, kr, pc, hB⟩ := hrel
    obtain ⟨d0, d1⟩ := id kr
    by_cases hlt : (k : Int) < m
    · obtain ⟨hA1, hA2⟩ := hA.out k hlt
      replace hA1 := Lib.hid hA1
      replace hA2 := Lib.hid hA2
      generalize atL l (f + k) = X at *
      have fw : IntKind.i64.wrap (f + (k : Int)) = f + k := by rw [IntKind.wrap_i64]; omega
      have hBd := hB.drew
      go_wp2_with fail
      refine wp_region_held_drew (S := (fun w' => w'.cell? ⟨w3.heap.size, 0, none⟩ = some (.int .i64 f) ∧ w'.cell? ⟨w3.heap.size, 1, none⟩ = some (.int .i64 m) ∧ PL w' vc C ∧ Below w.heap.size w w')) (by kernel_rfl) ?_ (fun hHeld => ?_)
      · (try dsimp only)
        ((try go_split_ands); refine ⟨?_, ?_, ?_, ?_⟩ <;> first | assumption | exact hBd | (exact cellK (by assumption) hb) | (exact PL.keep (by assumption) hb) | (exact Below.trans (by assumption) (hb.mono (Below.size (by assumption)))))
      refine takeL 0 (v := ?_) rfl (by kernel_rfl) (by kernel_rfl) (by kernel_rfl) (fun _ _ _ h => h) (by rfl) (by assumption) ?_ ?_
      rotate_left
      · (intro w hSw; (try dsimp only at hSw); (try go_split_ands); go_simp <;> with_reducible rfl)
      try simp only [Act.put, List.setIfInBounds_toArray, List.set_cons_zero, List.set_cons_succ]
      refine takeL 1 (v := ?_) rfl (by kernel_rfl) (by kernel_rfl) (by kernel_rfl) (fun _ _ _ h => h) (by rfl) (by assumption) ?_ ?_
      rotate_left
      · (intro w hSw; (try dsimp only at hSw); (try go_split_ands); go_simp <;> with_reducible rfl)
      try simp only [Act.put, List.setIfInBounds_toArray, List.set_cons_zero, List.set_cons_succ]
      refine takeL 3 (v := ?_) rfl (by kernel_rfl) (by kernel_rfl) (by kernel_rfl) (fun _ _ _ h => h) (by rfl) (by assumption) ?_ ?_
      rotate_left
      · (intro w hSw; (try dsimp only at hSw); (try go_split_ands); go_simp <;> with_reducible rfl)
      try simp only [Act.put, List.setIfInBounds_toArray, List.set_cons_zero, List.set_cons_succ]
      refine takeL 4 (v := ?_) rfl (by kernel_rfl) (by kernel_rfl) (by kernel_rfl) (fun _ _ _ h => h) (by rfl) (by assumption) ?_ ?_
      rotate_left
      · (intro w hSw; (try dsimp only at hSw); (try go_split_ands); go_simp <;> with_reducible rfl)
      try simp only [Act.put, List.setIfInBounds_toArray, List.set_cons_zero, List.set_cons_succ]
      refine takeL 5 (v := ?_) rfl (by kernel_rfl) (by kernel_rfl) (by kernel_rfl) (fun _ _ _ h => h) (by rfl) (by assumption) ?_ ?_
      rotate_left
      · (intro w hSw; (try dsimp only at hSw); (try go_split_ands); go_simp <;> with_reducible rfl)
      try simp only [Act.put, List.setIfInBounds_toArray, List.set_cons_zero, List.set_cons_succ]
      refine takeL 6 (v := ?_) rfl (by kernel_rfl) (by kernel_rfl) (by kernel_rfl) (fun _ _ _ h => h) (by rfl) (by assumption) ?_ ?_
      rotate_left
      · (intro w hSw; (try dsimp only at hSw); (try go_split_ands); go_simp <;> with_reducible rfl)
      try simp only [Act.put, List.setIfInBounds_toArray, List.set_cons_zero, List.set_cons_succ]
      refine takeL 7 (v := ?_) rfl (by kernel_rfl) (by kernel_rfl) (by kernel_rfl) (fun _ _ _ h => h) (by rfl) (by assumption) ?_ ?_
      rotate_left
      · (intro w hSw; (try dsimp only at hSw); (try go_split_ands); go_simp <;> with_reducible rfl)
      try simp only [Act.put, List.setIfInBounds_toArray, List.set_cons_zero, List.set_cons_succ]
      refine oneL 2 rfl (by kernel_rfl) (fun K hK => ?_)
      go_simp
      (obtain ⟨_, _, hq, _⟩ := id hHeld; refine (hA1.out _ _ hq).mono ?_; rintro e w8 ⟨rfl, hb⟩)
      refine hK.out _ _ ?_ (fun hHeld2 => ?_)
      · (try dsimp only)
        ((try go_split_ands); refine ⟨?_, ?_, ?_, ?_⟩ <;> first | assumption | exact hBd | (exact cellK (by assumption) hb) | (exact PL.keep (by assumption) hb) | (exact Below.trans (by assumption) (hb.mono (Below.size (by assumption)))))
      clear hK K hHeld
      have hHeld := hHeld2
      clear hHeld2
      try simp only [Act.put, List.setIfInBounds_toArray, List.set_cons_zero, List.set_cons_succ]
      refine oneL 8 rfl (by kernel_rfl) (fun K hK => ?_)
      go_simp
      (obtain ⟨_, _, _, hq⟩ := id hHeld; with_reducible refine (hA2.out _ hq).mono ?_; rintro e w9 ⟨rfl, hb⟩)
      refine hK.out _ _ ?_ (fun hHeld2 => ?_)
      · (try dsimp only)
        ((try go_split_ands); refine ⟨?_, ?_, ?_, ?_⟩ <;> first | assumption | exact hBd | (exact cellK (by assumption) hb) | (exact PL.keep (by assumption) hb) | (exact Below.trans (by assumption) (hb.mono (Below.size (by assumption)))))
      clear hK K hHeld
      have hHeld := hHeld2
      clear hHeld2
      try simp only [Act.put, List.setIfInBounds_toArray, List.set_cons_zero, List.set_cons_succ]
      refine takeL 9 (v := ?_) rfl (by kernel_rfl) (by kernel_rfl) (by kernel_rfl) (fun _ _ _ h => h) (by rfl) (by assumption) ?_ ?_
      rotate_left
      · (intro w hSw; (try dsimp only at hSw); (try go_split_ands); go_simp <;> with_reducible rfl)
      try simp only [Act.put, List.setIfInBounds_toArray, List.set_cons_zero, List.set_cons_succ]
      refine wpAnyH_done (by kernel_rfl) ?_ _
      obtain ⟨d0', d1', pc', hB'⟩ := hHeld
      go_wp2_with fail
      go_roundw
      case rel => exact ⟨k + 1, by omega, by go_num, ⟨d0', d1'⟩, pc', hB'⟩
      case measure => simp [intOf]; omega
    · obtain rfl : (k : Int) = m := by omega
      have e5 : (c : Int) % (k : Int) = u := hud.out.symm
      have e6 : (d : Int) % ((k : Int) - u) = n' := hnd.out.symm
      have hn9 : 0 ≤ n' ∧ n' ≤ 9000 := by omega
      have fw3 : IntKind.i64.wrap (f + u) = f + u := by rw [IntKind.wrap_i64]; omega
      have fw4 : IntKind.i64.wrap (IntKind.i64.wrap (T - f) + 1) = T - f + 1 := by rw [IntKind.wrap_i64, IntKind.wrap_i64]; omega
      replace hC3 := hC3.out
      replace hC4 := hC4.out
      rw [← fw3] at hC3
      rw [← fw4] at hC4
      replace hC3 := Lib.hid hC3
      replace hC4 := Lib.hid hC4
      clear fw3 fw4
      obtain ⟨z0, z1⟩ := kr.alloc (.cells #[.int .i64 u, .int .i64 0] (24 : Nat))
      clear kr
      have kz : C2 (wr.alloc (.cells #[.int .i64 u, .int .i64 n] (24 : Nat))) w3.heap.size (.int .i64 f) (.int .i64 (k : Int)) := C2.alloc ⟨d0, d1⟩ _
      have kn : C2 (wr.alloc (.cells #[.int .i64 u, .int .i64 n] (24 : Nat))) wr.heap.size (.int .i64 u) (.int .i64 n) := C2.new wr _ _ _
      have pz := pc.keep ((Below.refl _ _).alloc (Nat.le_refl _) (.cells #[.int .i64 u, .int .i64 n] (24 : Nat)))
      have hBd : Below w.heap.size w (wr.alloc (.cells #[.int .i64 u, .int .i64 n] (24 : Nat))).drew := (hB.alloc hB.size _).drew
      clear pc
      go_wp2_with fail
      try simp only [hnn.out]
      clear z0 z1 d0 d1 e5 e6
      obtain ⟨y0, y1⟩ := kz
      obtain ⟨y2, y3⟩ := kn
      refine wp_region_held_drew (S := (fun w' => w'.cell? ⟨w3.heap.size, 0, none⟩ = some (.int .i64 f) ∧ w'.cell? ⟨w3.heap.size, 1, none⟩ = some (.int .i64 (k : Int)) ∧ w'.cell? ⟨wr.heap.size, 0, none⟩ = some (.int .i64 u) ∧ w'.cell? ⟨wr.heap.size, 1, none⟩ = some (.int .i64 n) ∧ PL w' vc C ∧ Below w.heap.size w w')) (by kernel_rfl) ?_ (fun hHeld => ?_)
      · (try dsimp only)
        ((try go_split_ands); refine ⟨?_, ?_, ?_, ?_, ?_, ?_⟩ <;> first | assumption | exact hBd | (exact cellK (by assumption) hb) | (exact PL.keep (by assumption) hb) | (exact Below.trans (by assumption) (hb.mono (Below.size (by assumption)))))
      refine takeL 0 (v := ?_) rfl (by kernel_rfl) (by kernel_rfl) (by kernel_rfl) (fun _ _ _ h => h) (by rfl) (by assumption) ?_ ?_
      rotate_left
      · (intro w hSw; (try dsimp only at hSw); (try go_split_ands); go_simp <;> with_reducible rfl)
      try simp only [Act.put, List.setIfInBounds_toArray, List.set_cons_zero, List.set_cons_succ]
      refine takeL 1 (v := ?_) rfl (by kernel_rfl) (by kernel_rfl) (by kernel_rfl) (fun _ _ _ h => h) (by rfl) (by assumption) ?_ ?_
      rotate_left
      · (intro w hSw; (try dsimp only at hSw); (try go_split_ands); go_simp <;> with_reducible rfl)
      try simp only [Act.put, List.setIfInBounds_toArray, List.set_cons_zero, List.set_cons_succ]
      refine takeL 2 (v := ?_) rfl (by kernel_rfl) (by kernel_rfl) (by kernel_rfl) (fun _ _ _ h => h) (by rfl) (by assumption) ?_ ?_
      rotate_left
      · (intro w hSw; (try dsimp only at hSw); (try go_split_ands); go_simp <;> with_reducible rfl)
      try simp only [Act.put, List.setIfInBounds_toArray, List.set_cons_zero, List.set_cons_succ]
      refine takeL 3 (v := ?_) rfl (by kernel_rfl) (by kernel_rfl) (by kernel_rfl) (fun _ _ _ h => h) (by rfl) (by assumption) ?_ ?_
      rotate_left
      · (intro w hSw; (try dsimp only at hSw); (try go_split_ands); go_simp <;> with_reducible rfl)
      try simp only [Act.put, List.setIfInBounds_toArray, List.set_cons_zero, List.set_cons_succ]
      refine takeL 5 (v := ?_) rfl (by kernel_rfl) (by kernel_rfl) (by kernel_rfl) (fun _ _ _ h => h) (by rfl) (by assumption) ?_ ?_
      rotate_left
      · (intro w hSw; (try dsimp only at hSw); (try go_split_ands); go_simp <;> with_reducible rfl)
      try simp only [Act.put, List.setIfInBounds_toArray, List.set_cons_zero, List.set_cons_succ]
      refine takeL 6 (v := ?_) rfl (by kernel_rfl) (by kernel_rfl) (by kernel_rfl) (fun _ _ _ h => h) (by rfl) (by assumption) ?_ ?_
      rotate_left
      · (intro w hSw; (try dsimp only at hSw); (try go_split_ands); go_simp <;> with_reducible rfl)
      try simp only [Act.put, List.setIfInBounds_toArray, List.set_cons_zero, List.set_cons_succ]
      refine takeL 7 (v := ?_) rfl (by kernel_rfl) (by kernel_rfl) (by kernel_rfl) (fun _ _ _ h => h) (by rfl) (by assumption) ?_ ?_
      rotate_left
      · (intro w hSw; (try dsimp only at hSw); (try go_split_ands); go_simp <;> with_reducible rfl)
      try simp only [Act.put, List.setIfInBounds_toArray, List.set_cons_zero, List.set_cons_succ]
      refine takeL 8 (v := ?_) rfl (by kernel_rfl) (by kernel_rfl) (by kernel_rfl) (fun _ _ _ h => h) (by rfl) (by assumption) ?_ ?_
      rotate_left
      · (intro w hSw; (try dsimp only at hSw); (try go_split_ands); go_simp <;> with_reducible rfl)
      try simp only [Act.put, List.setIfInBounds_toArray, List.set_cons_zero, List.set_cons_succ]
      refine takeL 9 (v := ?_) rfl (by kernel_rfl) (by kernel_rfl) (by kernel_rfl) (fun _ _ _ h => h) (by rfl) (by assumption) ?_ ?_
      rotate_left
      · (intro w hSw; (try dsimp only at hSw); (try go_split_ands); go_simp <;> with_reducible rfl)
      try simp only [Act.put, List.setIfInBounds_toArray, List.set_cons_zero, List.set_cons_succ]
      refine takeL 10 (v := ?_) rfl (by kernel_rfl) (by kernel_rfl) (by kernel_rfl) (fun _ _ _ h => h) (by rfl) (by assumption) ?_ ?_
      rotate_left
      · (intro w hSw; (try dsimp only at hSw); (try go_split_ands); go_simp <;> with_reducible rfl)
      try simp only [Act.put, List.setIfInBounds_toArray, List.set_cons_zero, List.set_cons_succ]
      refine takeL 11 (v := ?_) rfl (by kernel_rfl) (by kernel_rfl) (by kernel_rfl) (fun _ _ _ h => h) (by rfl) (by assumption) ?_ ?_
      rotate_left
      · (intro w hSw; (try dsimp only at hSw); (try go_split_ands); go_simp <;> with_reducible rfl)
      try simp only [Act.put, List.setIfInBounds_toArray, List.set_cons_zero, List.set_cons_succ]
      refine takeL 12 (v := ?_) rfl (by kernel_rfl) (by kernel_rfl) (by kernel_rfl) (fun _ _ _ h => h) (by rfl) (by assumption) ?_ ?_
      rotate_left
      · (intro w hSw; (try dsimp only at hSw); (try go_split_ands); go_simp <;> with_reducible rfl)
      try simp only [Act.put, List.setIfInBounds_toArray, List.set_cons_zero, List.set_cons_succ]
      refine takeL 13 (v := ?_) rfl (by kernel_rfl) (by kernel_rfl) (by kernel_rfl) (fun _ _ _ h => h) (by rfl) (by assumption) ?_ ?_
      rotate_left
      · (intro w hSw; (try dsimp only at hSw); (try go_split_ands); go_simp <;> with_reducible rfl)
      try simp only [Act.put, List.setIfInBounds_toArray, List.set_cons_zero, List.set_cons_succ]
      refine oneL 4 rfl (by kernel_rfl) (fun K hK => ?_)
      go_simp
      (obtain ⟨_, _, _, _, hq, _⟩ := id hHeld; refine (hC2.out _ _ hq).mono ?_; rintro e wA ⟨vA, rfl, hoA, hb⟩; have pA := hoA.pl; clear hoA)
      refine hK.out _ _ ?_ (fun hHeld2 => ?_)
      · (try dsimp only)
        ((try go_split_ands); refine ⟨?_, ?_, ?_, ?_, ?_, ?_⟩ <;> first | assumption | exact hBd | (exact cellK (by assumption) hb) | (exact PL.keep (by assumption) hb) | (exact Below.trans (by assumption) (hb.mono (Below.size (by assumption)))))
      clear hK K hHeld
      have hHeld := hHeld2
      clear hHeld2
      try simp only [Act.put, List.setIfInBounds_toArray, List.set_cons_zero, List.set_cons_succ]
      refine oneL 14 rfl (by kernel_rfl) (fun K hK => ?_)
      go_simp
      (obtain ⟨_, _, _, _, _, hq⟩ := id hHeld; refine (hC3.out _ hq).mono ?_; rintro e wB ⟨vB, rfl, hoB, hb⟩; have pB := hoB.pl; clear hoB; replace pA := pA.keep hb)
      refine hK.out _ _ ?_ (fun hHeld2 => ?_)
      · (try dsimp only)
        ((try go_split_ands); refine ⟨?_, ?_, ?_, ?_, ?_, ?_⟩ <;> first | assumption | exact hBd | (exact cellK (by assumption) hb) | (exact PL.keep (by assumption) hb) | (exact Below.trans (by assumption) (hb.mono (Below.size (by assumption)))))
      clear hK K hHeld
      have hHeld := hHeld2
      clear hHeld2
      try simp only [Act.put, List.setIfInBounds_toArray, List.set_cons_zero, List.set_cons_succ]
      refine oneL 15 rfl (by kernel_rfl) (fun K hK => ?_)
      go_simp
      (refine (hS.out _ _ _ pA pB).mono ?_; rintro e wC ⟨rfl, hb⟩; clear pA pB)
      refine hK.out _ _ ?_ (fun hHeld2 => ?_)
      · (try dsimp only)
        ((try go_split_ands); refine ⟨?_, ?_, ?_, ?_, ?_, ?_⟩ <;> first | assumption | exact hBd | (exact cellK (by assumption) hb) | (exact PL.keep (by assumption) hb) | (exact Below.trans (by assumption) (hb.mono (Below.size (by assumption)))))
      clear hK K hHeld
      have hHeld := hHeld2
      clear hHeld2
      try simp only [Act.put, List.setIfInBounds_toArray, List.set_cons_zero, List.set_cons_succ]
      refine takeL 16 (v := ?_) rfl (by kernel_rfl) (by kernel_rfl) (by kernel_rfl) (fun _ _ _ h => h) (by rfl) (by assumption) ?_ ?_
      rotate_left
      · (intro w hSw; (try dsimp only at hSw); (try go_split_ands); go_simp <;> with_reducible rfl)
      try simp only [Act.put, List.setIfInBounds_toArray, List.set_cons_zero, List.set_cons_succ]
      refine takeL 17 (v := ?_) rfl (by kernel_rfl) (by kernel_rfl) (by kernel_rfl) (fun _ _ _ h => h) (by rfl) (by assumption) ?_ ?_
      rotate_left
      · (intro w hSw; (try dsimp only at hSw); (try go_split_ands); go_simp <;> with_reducible rfl)
      try simp only [Act.put, List.setIfInBounds_toArray, List.set_cons_zero, List.set_cons_succ]
      refine takeL 18 (v := ?_) rfl (by kernel_rfl) (by kernel_rfl) (by kernel_rfl) (fun _ _ _ h => h) (by rfl) (by assumption) ?_ ?_
      rotate_left
      · (intro w hSw; (try dsimp only at hSw); (try go_split_ands); go_simp <;> with_reducible rfl)
      try simp only [Act.put, List.setIfInBounds_toArray, List.set_cons_zero, List.set_cons_succ]
      refine takeL 19 (v := ?_) rfl (by kernel_rfl) (by kernel_rfl) (by kernel_rfl) (fun _ _ _ h => h) (by rfl) (by assumption) ?_ ?_
      rotate_left
      · (intro w hSw; (try dsimp only at hSw); (try go_split_ands); go_simp <;> with_reducible rfl)
      try simp only [Act.put, List.setIfInBounds_toArray, List.set_cons_zero, List.set_cons_succ]
      refine takeL 20 (v := ?_) rfl (by kernel_rfl) (by kernel_rfl) (by kernel_rfl) (fun _ _ _ h => h) (by rfl) (by assumption) ?_ ?_
      rotate_left
      · (intro w hSw; (try dsimp only at hSw); (try go_split_ands); go_simp <;> with_reducible rfl)
      try simp only [Act.put, List.setIfInBounds_toArray, List.set_cons_zero, List.set_cons_succ]
      refine takeL 21 (v := ?_) rfl (by kernel_rfl) (by kernel_rfl) (by kernel_rfl) (fun _ _ _ h => h) (by rfl) (by assumption) ?_ ?_
      rotate_left
      · (intro w hSw; (try dsimp only at hSw); (try go_split_ands); go_simp <;> with_reducible rfl)
      try simp only [Act.put, List.setIfInBounds_toArray, List.set_cons_zero, List.set_cons_succ]
      refine takeL 22 (v := ?_) rfl (by kernel_rfl) (by kernel_rfl) (by kernel_rfl) (fun _ _ _ h => h) (by rfl) (by assumption) ?_ ?_
      rotate_left
      · (intro w hSw; (try dsimp only at hSw); (try go_split_ands); go_simp <;> with_reducible rfl)
      try simp only [Act.put, List.setIfInBounds_toArray, List.set_cons_zero, List.set_cons_succ]
      refine takeL 23 (v := ?_) rfl (by kernel_rfl) (by kernel_rfl) (by kernel_rfl) (fun _ _ _ h => h) (by rfl) (by assumption) ?_ ?_
      rotate_left
      · (intro w hSw; (try dsimp only at hSw); (try go_split_ands); go_simp <;> with_reducible rfl)
      try simp only [Act.put, List.setIfInBounds_toArray, List.set_cons_zero, List.set_cons_succ]
      refine takeL 24 (v := ?_) rfl (by kernel_rfl) (by kernel_rfl) (by kernel_rfl) (fun _ _ _ h => h) (by rfl) (by assumption) ?_ ?_
      rotate_left
      · (intro w hSw; (try dsimp only at hSw); (try go_split_ands); go_simp <;> with_reducible rfl)
      try simp only [Act.put, List.setIfInBounds_toArray, List.set_cons_zero, List.set_cons_succ]
      refine takeL 25 (v := ?_) rfl (by kernel_rfl) (by kernel_rfl) (by kernel_rfl) (fun _ _ _ h => h) (by rfl) (by assumption) ?_ ?_
      rotate_left
      · (intro w hSw; (try dsimp only at hSw); (try go_split_ands); go_simp <;> with_reducible rfl)
      try simp only [Act.put, List.setIfInBounds_toArray, List.set_cons_zero, List.set_cons_succ]
      refine takeL 26 (v := ?_) rfl (by kernel_rfl) (by kernel_rfl) (by kernel_rfl) (fun _ _ _ h => h) (by rfl) (by assumption) ?_ ?_
      rotate_left
      · (intro w hSw; (try dsimp only at hSw); (try go_split_ands); go_simp <;> with_reducible rfl)
      try simp only [Act.put, List.setIfInBounds_toArray, List.set_cons_zero, List.set_cons_succ]
      refine oneL 27 rfl (by kernel_rfl) (fun K hK => ?_)
      go_simp
      (obtain ⟨_, _, _, _, _, hq⟩ := id hHeld; refine (hC4.out _ hq).mono ?_; rintro e wD ⟨vD, rfl, hoD, hb⟩; obtain ⟨AD, capD, rfl, _⟩ := hoD.pl.form (n := 0) rfl; clear hoD)
      refine hK.out _ _ ?_ (fun hHeld2 => ?_)
      · (try dsimp only)
        ((try go_split_ands); refine ⟨?_, ?_, ?_, ?_, ?_, ?_⟩ <;> first | assumption | exact hBd | (exact cellK (by assumption) hb) | (exact PL.keep (by assumption) hb) | (exact Below.trans (by assumption) (hb.mono (Below.size (by assumption)))))
      clear hK K hHeld
      have hHeld := hHeld2
      clear hHeld2
      try simp only [Act.put, List.setIfInBounds_toArray, List.set_cons_zero, List.set_cons_succ]
      refine takeL 28 (v := ?_) rfl (by kernel_rfl) (by kernel_rfl) (by kernel_rfl) (fun _ _ _ h => h) (by rfl) (by assumption) ?_ ?_
      rotate_left
      · (intro w hSw; (try dsimp only at hSw); (try go_split_ands); go_simp <;> with_reducible rfl)
      try simp only [Act.put, List.setIfInBounds_toArray, List.set_cons_zero, List.set_cons_succ]
      refine takeL 29 (v := ?_) rfl (by kernel_rfl) (by kernel_rfl) (by kernel_rfl) (fun _ _ _ h => h) (by rfl) (by assumption) ?_ ?_
      rotate_left
      · (intro w hSw; (try dsimp only at hSw); (try go_split_ands); go_simp <;> with_reducible rfl)
      try simp only [Act.put, List.setIfInBounds_toArray, List.set_cons_zero, List.set_cons_succ]
      refine takeL 30 (v := ?_) rfl (by kernel_rfl) (by kernel_rfl) (by kernel_rfl) (fun _ _ _ h => h) (by rfl) (by assumption) ?_ ?_
      rotate_left
      · (intro w hSw; (try dsimp only at hSw); (try go_split_ands); go_simp <;> with_reducible rfl)
      try simp only [Act.put, List.setIfInBounds_toArray, List.set_cons_zero, List.set_cons_succ]
      refine takeL 31 (v := ?_) rfl (by kernel_rfl) (by kernel_rfl) (by kernel_rfl) (fun _ _ _ h => h) (by rfl) (by assumption) ?_ ?_
      rotate_left
      · (intro w hSw; (try dsimp only at hSw); (try go_split_ands); go_simp <;> with_reducible rfl)
      try simp only [Act.put, List.setIfInBounds_toArray, List.set_cons_zero, List.set_cons_succ]
      refine wpAnyH_done (by kernel_rfl) ?_ _
      obtain ⟨_, _, _, _, _, hB'⟩ := hHeld
      go_wp2_with fail
      go_ret
      exact ⟨rfl, hB'⟩
theorem pieceCuts (v : Value) (l : List Sp) (a b c d : Nat) (w : World) (hl : PI l) (hv : PL w v l) (ha : a < 256) (hb : b < 256) (hc : c < 256) (hd : d < 256) :
    Calls Try.prog 5 #[v, .int .u8 (a : Nat), .int .u8 (b : Nat), .int .u8 (c : Nat), .int .u8 (d : Nat)] w fun e w' => e = .returned (.bool true) ∧ Below w.heap.size w w' := by
  cases hf : fewL l
  · exact pieceCuts_no v l a b c d w hl hv hf
  · by_cases hT : totS l < 1
    · exact pieceCuts_nil v l a b c d w hl hv hf hT
    · exact pieceCuts_yes v l a b c d w hl hv hf (by omega) ha hb hc hd
end Go.Proofs.Ytddfhgdejlkdgaa
