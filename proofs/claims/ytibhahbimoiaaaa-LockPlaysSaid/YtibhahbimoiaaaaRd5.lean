/-
  What operations do with an image: the code's Apply and the document's.
-/
import Derived.Test.YtibhahbimoiaaaaRd4
import Derived.Test.YtibhahbimoiaaaaRegS
set_option linter.unusedVariables false
set_option linter.unusedSimpArgs false
namespace Go.Proofs.Ytibhahbimoiaaaa
open Go.RowKit Go.ChangeShapes Go.WideShapes Go.Deep

def apOne (I : List Nat) (o : Ox) : List Nat := if 0 ≤ o.2.1 ∧ o.2.1 < (I.length : Int) then I.set o.2.1.toNat (doN (I.getD o.2.1.toNat 0) o) else I
def applyL (I : List Nat) (l : List Ox) : List Nat := l.foldl apOne I
theorem apOne_len (I : List Nat) (o : Ox) : (apOne I o).length = I.length := by
  unfold apOne; split
  · rw [List.length_set]
  · rfl
theorem applyL_len (l : List Ox) : ∀ I : List Nat, (applyL I l).length = I.length := by
  unfold applyL
  induction l with
  | nil => intro I; rfl
  | cons o l ih => intro I; rw [List.foldl_cons, ih, apOne_len]
theorem applyL_take (I : List Nat) (l : List Ox) (k : Nat) (h : k < l.length) : applyL I (l.take (k + 1)) = apOne (applyL I (l.take k)) (l.getD k default) := by
  unfold applyL
  rw [List.take_succ_eq_append_getElem h, List.foldl_append, List.getD_eq_getElem?_getD, List.getElem?_eq_getElem h]
  rfl
theorem apOne_WL {I : List Nat} {o : Ox} (h : WL I) (ho : o.2.2 < 18446744073709551616) : WL (apOne I o) := by
  unfold apOne
  split
  · rename_i q
    intro x hx
    rcases List.mem_or_eq_of_mem_set hx with hx | rfl
    · exact h x hx
    · exact doN_lt (h.at _ (by omega)) ho
  · exact h
def OVs (l : List Ox) : Prop := ∀ o ∈ l, o.2.2 < 18446744073709551616
theorem OVs.at {l : List Ox} (h : OVs l) (i : Nat) (hi : i < l.length) : (l.getD i default).2.2 < 18446744073709551616 := by
  rw [List.getD_eq_getElem?_getD, List.getElem?_eq_getElem hi]
  exact h _ (List.getElem_mem hi)
theorem applyL_WL {l : List Ox} (ho : OVs l) : ∀ {I : List Nat}, WL I → WL (applyL I l) := by
  unfold applyL
  induction l with
  | nil => intro I h; exact h
  | cons o l ih => intro I h; rw [List.foldl_cons]; exact ih (fun x hx => ho x (by simp [hx])) (apOne_WL h (ho o (by simp)))
theorem OwnU.set {w : World} {base g cap n i y : Nat} {I : List Nat} (h : OwnU w base (.slice (some ⟨g, 0, none⟩) n cap) I) (hn : I.length = n) (hi : i < n) : OwnU (w.setCell ⟨g, i, none⟩ (.int .u64 (y : Nat))) base (.slice (some ⟨g, 0, none⟩) n cap) (I.set i y) := by
  unfold OwnU at h ⊢
  rw [hn] at h
  rw [List.length_set, hn, List.map_set]
  exact (World.ownsRow.stored h i _).1
theorem OwnU.cell {w : World} {base g cap n i : Nat} {I : List Nat} (h : OwnU w base (.slice (some ⟨g, 0, none⟩) n cap) I) (hn : I.length = n) (hi : i < n) : w.cell? ⟨g, i, none⟩ = some (.int .u64 (I.getD i 0 : Nat)) ∧ w.frozen? ⟨g, i, none⟩ = false := by
  unfold OwnU at h
  rw [hn] at h
  refine ⟨?_, h.frozenAt _⟩
  rw [World.ownsRow.cellAt h i (by omega), List.getElem?_map, List.getElem?_eq_getElem (by omega), List.getD_eq_getElem?_getD, List.getElem?_eq_getElem (by omega)]
  rfl
theorem OwnU.form {w : World} {base : Nat} {v : Value} {I : List Nat} (h : OwnU w base v I) : ∃ A cap, v = .slice A I.length cap ∧ (0 < I.length → ∃ g, A = some ⟨g, 0, none⟩ ∧ base ≤ g ∧ g < w.heap.size) := by
  rcases h.2 with ⟨h, h0⟩ | ⟨g, cap, cur, h, hb, hg, _⟩
  · exact ⟨none, 0, by rw [h, h0], fun q => by omega⟩
  · exact ⟨_, _, h, fun _ => ⟨g, rfl, hb, (Array.getElem?_eq_some_iff.1 hg).1⟩⟩
theorem frozK {w w1 : World} {b o : Nat} {v : Value} (h : w.cell? ⟨b, o, none⟩ = some v) (k : w.frozen? ⟨b, o, none⟩ = false) (hb : Below w.heap.size w w1) : w1.frozen? ⟨b, o, none⟩ = false := by
  rw [(bcell hb).2 _ _ (World.block_lt_of_cell? w _ h)]; exact k

set_option maxRecDepth 10000 in
set_option maxHeartbeats 2000000 in
theorem apply_any (v u : Value) (I : List Nat) (l : List Ox) (w : World) (hI : WL I) (hlI : I.length ≤ 100000) (ho : OVs l) (hlen : l.length ≤ 100000) (hv : KL .u64 w v I) (hu : OPL w u l) :
    Calls Try.prog 23 #[v, u] w fun e w' => ∃ v', e = .returned v' ∧ OwnU w' w.heap.size v' (applyL I l) ∧ Below w.heap.size w w' := by
  obtain ⟨n, hn⟩ : ∃ n, l.length = n := ⟨_, rfl⟩
  obtain ⟨A, cap, rfl, hC⟩ := hu.form hn
  have hS := Lib.hid (fun k (hk : k < n) => show applyL I (l.take (k + 1)) = apOne (applyL I (l.take k)) (l.getD k default) from applyL_take I l k (by omega))
  have hE := Lib.hid (show applyL I (l.take n) = applyL I l from by rw [List.take_of_length_le (by omega)])
  have hZ := Lib.hid (show applyL I (l.take 0) = I from by simp [applyL])
  have hL := Lib.hid (fun k => show (applyL I (l.take k)).length = I.length from applyL_len _ _)
  have hWl := Lib.hid (fun k => show WL (applyL I (l.take k)) from applyL_WL (fun x hx => ho x (List.mem_of_mem_take hx)) hI)
  have hO := Lib.hid (fun k (hk : k < n) => ho.at k (by omega))
  replace hC := Lib.hid hC
  have hn9 : n ≤ 100000 := by omega
  replace hn := Lib.hid hn
  have hCl := Lib.hid (clone_any v I w (by omega) hv)
  clear hv hu hI ho hlen
  go_enter Try.func23, Try.ntmps23
  go_wp2_with fail
  refine hCl.out.mono ?_
  rintro e w1 ⟨vo, rfl, hown0, hB0⟩
  clear hCl
  obtain ⟨NI, hNI⟩ : ∃ n, I.length = n := ⟨_, rfl⟩
  obtain ⟨Ao, co, rfl, hAo⟩ := hown0.form
  rw [hNI] at hAo hown0 ⊢
  rw [hNI] at hL hlI
  replace hNI := Lib.hid hNI
  have hs0 := hB0.size
  go_wp2_with fail
  go_loopw [12] (fun i wr => ∃ (k : Nat) (J : List Nat), k ≤ n ∧ i = .int .i64 k ∧ Hid (J = applyL I (l.take k)) ∧ OwnU wr w.heap.size (.slice Ao NI co) J ∧ Below w.heap.size w wr) (fun i _ => n + 1 - (intOf i).toNat)
  case atStart => exact ⟨0, I, Nat.zero_le _, rfl, Lib.hid hZ.out.symm, hown0, hB0⟩
  case round =>
    clear hown0 hB0
    obtain ⟨k, J, hk, rfl, hJ, hown, hB⟩ := hrel
    by_cases hlt : k < n
    · obtain ⟨g, off, rfl, hcap, hgw, hg, c0, c1, c2⟩ := hC.out wr k hB hlt
      have hlt' : (k : Int) < (n : Int) := by omega
      have hs1 := hS.out k hlt
      have hJl : J.length = NI := by rw [hJ.out]; exact hL.out k
      have hJW : WL J := by rw [hJ.out]; exact hWl.out k
      have hov := hO.out k hlt
      rw [← hJ.out] at hs1
      generalize l.getD k default = o at *
      obtain ⟨x, a, y⟩ := o
      simp only [] at c0 c1 c2 hov
      by_cases q1 : a < 0
      · have q1' : ¬ (0 ≤ a) := by omega
        have hR := Lib.hid (show J = applyL I (l.take (k + 1)) from by rw [hs1, apOne, if_neg (by simp only []; omega)])
        clear hs1 hJW
        go_wp2_with fail
        go_roundw
        case rel => exact ⟨k + 1, J, by omega, by go_num, hR, hown.keep ((Below.refl _ _).alloc (Nat.le_refl _) _), hB.alloc hB.size _⟩
        case measure => simp [intOf]; omega
      by_cases q2 : (NI : Int) ≤ a
      · have q1' : 0 ≤ a := by omega
        have q2' : ¬ (a < (NI : Int)) := by omega
        have hR := Lib.hid (show J = applyL I (l.take (k + 1)) from by rw [hs1, apOne, if_neg (by simp only []; omega)])
        clear hs1 hJW
        go_wp2_with fail
        go_roundw
        case rel => exact ⟨k + 1, J, by omega, by go_num, hR, hown.keep ((Below.refl _ _).alloc (Nat.le_refl _) _), hB.alloc hB.size _⟩
        case measure => simp [intOf]; omega
      · obtain ⟨i, rfl⟩ := Int.eq_ofNat_of_zero_le (show 0 ≤ a by omega)
        have q3 : i < NI := by omega
        have q3' : (i : Int) < (NI : Int) := by omega
        obtain ⟨go, rfl, hgo1, hgo2⟩ := hAo (by omega)
        have hzl := hJW.at i (by omega)
        have hR := Lib.hid (show J.set i (doN (J.getD i 0) (x, (i : Int), y)) = applyL I (l.take (k + 1)) from by rw [hs1, apOne, if_pos (by simp only []; omega)]; simp)
        have hDo := Lib.hid (fun w => do_any (J.getD i 0) (x, (i : Int), y) w hzl hov)
        unfold opV at hDo
        simp only [] at hDo
        obtain ⟨e0, f0⟩ := hown.cell hJl q3
        clear hs1 hJW hzl
        generalize J.getD i 0 = z at *
        generalize doN z (x, (i : Int), y) = d at *
        go_wp2_with fail
        obtain ⟨W, hW⟩ : ∃ W : World, W = wr.alloc (.cells #[.int .i64 x, .int .i64 (i : Int), .int .u64 (y : Nat)] (38 : Nat)) := ⟨_, rfl⟩
        have hbA : Below wr.heap.size wr W := by rw [hW]; exact (Below.refl _ _).alloc (Nat.le_refl _) _
        have hkW : C3 W wr.heap.size (.int .i64 x) (.int .i64 (i : Int)) (.int .u64 (y : Nat)) := by rw [hW]; exact C3.new _ _ _ _ _
        obtain ⟨b0, b1, b2⟩ := hkW
        rw [← hW]
        clear hW
        have hownW := hown.keep hbA
        have hBW := hB.trans (hbA.mono hB.size)
        have e1 := cellK e0 hbA
        have f1 := frozK e0 f0 hbA
        refine wp_region_tail (S := (fun w' => w'.cell? ⟨wr.heap.size, 0, none⟩ = some (.int .i64 x) ∧ w'.cell? ⟨wr.heap.size, 1, none⟩ = some (.int .i64 (i : Int)) ∧ w'.cell? ⟨wr.heap.size, 2, none⟩ = some (.int .u64 (y : Nat)) ∧ w'.cell? ⟨go, i, none⟩ = some (.int .u64 (z : Nat)) ∧ w'.frozen? ⟨go, i, none⟩ = false ∧ Below W.heap.size W w')) (n := 11) (by kernel_rfl) ?_ (fun hHeld hInv => ?_) (by decide)
        · (try dsimp only)
          (first | assumption | (exact ⟨b0, b1, b2, e1, f1, (Below.refl _ _).drew⟩) | ((try go_split_ands); exact ⟨cellK (by assumption) hb, cellK (by assumption) hb, cellK (by assumption) hb, cellK (by assumption) hb, frozK (v := .int .u64 (z : Nat)) (by assumption) (by assumption) hb, Below.trans (by assumption) (hb.mono (Below.size (by assumption)))⟩))
        refine takeS 0 (v := ?_) (tailAt (by kernel_rfl)) hInv (by decide) rfl (by kernel_rfl) (by kernel_rfl) (by kernel_rfl) (fun _ _ _ h => h) (by rfl) (by assumption) ?_ (fun hInv2 => ?_)
        rotate_left
        · (intro w hSw; (try dsimp only at hSw); (try go_split_ands); go_simp <;> with_reducible rfl)
        clear hInv
        have hInv := hInv2
        clear hInv2
        try simp only [Act.put, List.setIfInBounds_toArray, List.set_cons_zero, List.set_cons_succ] at hInv ⊢
        refine takeS 1 (v := ?_) (tailAt (by kernel_rfl)) hInv (by decide) rfl (by kernel_rfl) (by kernel_rfl) (by kernel_rfl) (fun _ _ _ h => h) (by rfl) (by assumption) ?_ (fun hInv2 => ?_)
        rotate_left
        · (intro w hSw; (try dsimp only at hSw); (try go_split_ands); go_simp <;> with_reducible rfl)
        clear hInv
        have hInv := hInv2
        clear hInv2
        try simp only [Act.put, List.setIfInBounds_toArray, List.set_cons_zero, List.set_cons_succ] at hInv ⊢
        refine takeS 2 (v := ?_) (tailAt (by kernel_rfl)) hInv (by decide) rfl (by kernel_rfl) (by kernel_rfl) (by kernel_rfl) (fun _ _ _ h => h) (by rfl) (by assumption) ?_ (fun hInv2 => ?_)
        rotate_left
        · (intro w hSw; (try dsimp only at hSw); (try go_split_ands); go_simp <;> with_reducible rfl)
        clear hInv
        have hInv := hInv2
        clear hInv2
        try simp only [Act.put, List.setIfInBounds_toArray, List.set_cons_zero, List.set_cons_succ] at hInv ⊢
        refine takeS 3 (v := ?_) (tailAt (by kernel_rfl)) hInv (by decide) rfl (by kernel_rfl) (by kernel_rfl) (by kernel_rfl) (fun _ _ _ h => h) (by rfl) (by assumption) ?_ (fun hInv2 => ?_)
        rotate_left
        · (intro w hSw; (try dsimp only at hSw); (try go_split_ands); go_simp <;> with_reducible rfl)
        clear hInv
        have hInv := hInv2
        clear hInv2
        try simp only [Act.put, List.setIfInBounds_toArray, List.set_cons_zero, List.set_cons_succ] at hInv ⊢
        refine takeS 4 (v := ?_) (tailAt (by kernel_rfl)) hInv (by decide) rfl (by kernel_rfl) (by kernel_rfl) (by kernel_rfl) (fun _ _ _ h => h) (by rfl) (by assumption) ?_ (fun hInv2 => ?_)
        rotate_left
        · (intro w hSw; (try dsimp only at hSw); (try go_split_ands); go_simp <;> with_reducible rfl)
        clear hInv
        have hInv := hInv2
        clear hInv2
        try simp only [Act.put, List.setIfInBounds_toArray, List.set_cons_zero, List.set_cons_succ] at hInv ⊢
        refine takeS 5 (v := ?_) (tailAt (by kernel_rfl)) hInv (by decide) rfl (by kernel_rfl) (by kernel_rfl) (by kernel_rfl) (fun _ _ _ h => h) (by rfl) (by assumption) ?_ (fun hInv2 => ?_)
        rotate_left
        · (intro w hSw; (try dsimp only at hSw); (try go_split_ands); go_simp <;> with_reducible rfl)
        clear hInv
        have hInv := hInv2
        clear hInv2
        try simp only [Act.put, List.setIfInBounds_toArray, List.set_cons_zero, List.set_cons_succ] at hInv ⊢
        refine takeS 6 (v := ?_) (tailAt (by kernel_rfl)) hInv (by decide) rfl (by kernel_rfl) (by kernel_rfl) (by kernel_rfl) (fun _ _ _ h => h) (by rfl) (by assumption) ?_ (fun hInv2 => ?_)
        rotate_left
        · (intro w hSw; (try dsimp only at hSw); (try go_split_ands); go_simp <;> with_reducible rfl)
        clear hInv
        have hInv := hInv2
        clear hInv2
        try simp only [Act.put, List.setIfInBounds_toArray, List.set_cons_zero, List.set_cons_succ] at hInv ⊢
        refine takeS 7 (v := ?_) (tailAt (by kernel_rfl)) hInv (by decide) rfl (by kernel_rfl) (by kernel_rfl) (by kernel_rfl) (fun _ _ _ h => h) (by rfl) (by assumption) ?_ (fun hInv2 => ?_)
        rotate_left
        · (intro w hSw; (try dsimp only at hSw); (try go_split_ands); go_simp <;> with_reducible rfl)
        clear hInv
        have hInv := hInv2
        clear hInv2
        try simp only [Act.put, List.setIfInBounds_toArray, List.set_cons_zero, List.set_cons_succ] at hInv ⊢
        refine takeS 8 (v := ?_) (tailAt (by kernel_rfl)) hInv (by decide) rfl (by kernel_rfl) (by kernel_rfl) (by kernel_rfl) (fun _ _ _ h => h) (by rfl) (by assumption) ?_ (fun hInv2 => ?_)
        rotate_left
        · (intro w hSw; (try dsimp only at hSw); (try go_split_ands); go_simp <;> with_reducible rfl)
        clear hInv
        have hInv := hInv2
        clear hInv2
        try simp only [Act.put, List.setIfInBounds_toArray, List.set_cons_zero, List.set_cons_succ] at hInv ⊢
        refine oneS 9 hInv (by decide) rfl (by kernel_rfl) (fun K hK => ?_)
        go_simp
        ((with_reducible refine (hDo.out _).mono ?_); rintro e w8 ⟨rfl, hb⟩)
        refine hK.out _ _ ?_ (fun hHeld2 hInv2 => ?_)
        · (try dsimp only)
          (first | assumption | (exact ⟨b0, b1, b2, e1, f1, (Below.refl _ _).drew⟩) | ((try go_split_ands); exact ⟨cellK (by assumption) hb, cellK (by assumption) hb, cellK (by assumption) hb, cellK (by assumption) hb, frozK (v := .int .u64 (z : Nat)) (by assumption) (by assumption) hb, Below.trans (by assumption) (hb.mono (Below.size (by assumption)))⟩))
        clear hK K hHeld hInv
        have hHeld := hHeld2
        have hInv := hInv2
        clear hHeld2 hInv2
        try simp only [Act.put, List.setIfInBounds_toArray, List.set_cons_zero, List.set_cons_succ] at hInv ⊢
        refine takeS 10 (v := ?_) (tailAt (by kernel_rfl)) hInv (by decide) rfl (by kernel_rfl) (by kernel_rfl) (by kernel_rfl) (fun _ _ _ h => h) (by rfl) (by assumption) ?_ (fun hInv2 => ?_)
        rotate_left
        · (intro w hSw; (try dsimp only at hSw); (try go_split_ands); go_simp <;> with_reducible rfl)
        clear hInv
        have hInv := hInv2
        clear hInv2
        try simp only [Act.put, List.setIfInBounds_toArray, List.set_cons_zero, List.set_cons_succ] at hInv ⊢
        refine lastS 11 rfl (by decide) (by kernel_rfl) (fun K hK => ?_)
        obtain ⟨_, _, _, r0, r1, hbL⟩ := id hHeld
        go_simp
        refine hK.out _ _ ?_
        clear hK K
        refine wpAnyS_done (by kernel_rfl) ?_ _
        obtain ⟨_, _, _, r0, r1, hbL⟩ := id hHeld
        have hownN := (hownW.keep hbL).set (y := d) hJl q3
        rw [hR.out] at hownN
        obtain ⟨J2, hJ2⟩ : ∃ J2, J2 = applyL I (l.take (k + 1)) := ⟨_, rfl⟩
        rw [← hJ2] at hownN
        replace hJ2 := Lib.hid hJ2
        have hBN : Below w.heap.size w (w8.setCell ⟨go, i, none⟩ (.int .u64 (d : Nat))) := (hBW.trans (hbL.mono hBW.size)).setCell (by simp only []; omega) _
        clear hHeld hInv r0 r1 hown hB hownW hBW hR
        go_wp2_with fail
        go_roundw
        case rel => exact ⟨k + 1, _, by omega, by go_num, hJ2, hownN, hBN⟩
        case measure => simp [intOf]; omega
    · have hR : J = applyL I l := by
        have hkn : k = n := by omega
        rw [hJ.out, hkn, hE.out]
      replace hR := Lib.hid hR
      obtain rfl : k = n := by omega
      go_wp2_with fail
      go_ret
      exact ⟨_, rfl, by rw [← hR.out]; exact hown, hB⟩

set_option maxRecDepth 10000 in
set_option maxHeartbeats 2000000 in
theorem refApply_any (v u : Value) (I : List Nat) (l : List Ox) (w : World) (hI : WL I) (hlI : I.length ≤ 100000) (ho : OVs l) (hlen : l.length ≤ 100000) (hv : KL .u64 w v I) (hu : OPL w u l) :
    Calls Try.prog 24 #[v, u] w fun e w' => ∃ v', e = .returned v' ∧ OwnU w' w.heap.size v' (applyL I l) ∧ Below w.heap.size w w' := by
  obtain ⟨n, hn⟩ : ∃ n, l.length = n := ⟨_, rfl⟩
  obtain ⟨A, cap, rfl, hC⟩ := hu.form hn
  have hS := Lib.hid (fun k (hk : k < n) => show applyL I (l.take (k + 1)) = apOne (applyL I (l.take k)) (l.getD k default) from applyL_take I l k (by omega))
  have hE := Lib.hid (show applyL I (l.take n) = applyL I l from by rw [List.take_of_length_le (by omega)])
  have hZ := Lib.hid (show applyL I (l.take 0) = I from by simp [applyL])
  have hL := Lib.hid (fun k => show (applyL I (l.take k)).length = I.length from applyL_len _ _)
  have hWl := Lib.hid (fun k => show WL (applyL I (l.take k)) from applyL_WL (fun x hx => ho x (List.mem_of_mem_take hx)) hI)
  have hO := Lib.hid (fun k (hk : k < n) => ho.at k (by omega))
  replace hC := Lib.hid hC
  have hn9 : n ≤ 100000 := by omega
  replace hn := Lib.hid hn
  obtain ⟨vo, w1, hrun, hown0, hB0⟩ := newW hv (by omega)
  obtain ⟨AI, capI, rfl, _⟩ := hv.form rfl
  clear hv hu hI ho hlen
  go_enter Try.func24, Try.ntmps24
  go_wp2_with (at_builtin; refine wpList_append_run rfl _ _ 24 rfl _ _ _ rfl rfl hrun ?_)
  clear hrun
  obtain ⟨NI, hNI⟩ : ∃ n, I.length = n := ⟨_, rfl⟩
  obtain ⟨Ao, co, rfl, hAo⟩ := hown0.form
  rw [hNI] at hAo hown0 ⊢
  rw [hNI] at hL hlI
  replace hNI := Lib.hid hNI
  have hs0 := hB0.size
  go_wp2_with fail
  go_loopw [6] (fun i wr => ∃ (k : Nat) (J : List Nat), k ≤ n ∧ i = .int .i64 k ∧ Hid (J = applyL I (l.take k)) ∧ OwnU wr w.heap.size (.slice Ao NI co) J ∧ Below w.heap.size w wr) (fun i _ => n + 1 - (intOf i).toNat)
  case atStart => exact ⟨0, I, Nat.zero_le _, rfl, Lib.hid hZ.out.symm, hown0, hB0⟩
  case round =>
    clear hown0 hB0
    obtain ⟨k, J, hk, rfl, hJ, hown, hB⟩ := hrel
    by_cases hlt : k < n
    · obtain ⟨g, off, rfl, hcap, hgw, hg, c0, c1, c2⟩ := hC.out wr k hB hlt
      have hlt' : (k : Int) < (n : Int) := by omega
      have hs1 := hS.out k hlt
      have hJl : J.length = NI := by rw [hJ.out]; exact hL.out k
      have hJW : WL J := by rw [hJ.out]; exact hWl.out k
      have hov := hO.out k hlt
      rw [← hJ.out] at hs1
      generalize l.getD k default = o at *
      obtain ⟨x, a, y⟩ := o
      simp only [] at c0 c1 c2 hov
      by_cases q1 : a < 0
      · have q1' : ¬ (0 ≤ a) := by omega
        have hR := Lib.hid (show J = applyL I (l.take (k + 1)) from by rw [hs1, apOne, if_neg (by simp only []; omega)])
        clear hs1 hJW
        go_wp2_with fail
        go_roundw
        case rel => exact ⟨k + 1, J, by omega, by go_num, hR, hown, hB⟩
        case measure => simp [intOf]; omega
      by_cases q2 : (NI : Int) ≤ a
      · have q1' : 0 ≤ a := by omega
        have q2' : ¬ (a < (NI : Int)) := by omega
        have hR := Lib.hid (show J = applyL I (l.take (k + 1)) from by rw [hs1, apOne, if_neg (by simp only []; omega)])
        clear hs1 hJW
        go_wp2_with fail
        go_roundw
        case rel => exact ⟨k + 1, J, by omega, by go_num, hR, hown, hB⟩
        case measure => simp [intOf]; omega
      · obtain ⟨i, rfl⟩ := Int.eq_ofNat_of_zero_le (show 0 ≤ a by omega)
        have q3 : i < NI := by omega
        have q3' : (i : Int) < (NI : Int) := by omega
        obtain ⟨go, rfl, hgo1, hgo2⟩ := hAo (by omega)
        have hzl := hJW.at i (by omega)
        have hR := Lib.hid (show J.set i (doN (J.getD i 0) (x, (i : Int), y)) = applyL I (l.take (k + 1)) from by rw [hs1, apOne, if_pos (by simp only []; omega)]; simp)
        have hDo := Lib.hid (fun w => refDo_any (J.getD i 0) (x, (i : Int), y) w hzl hov)
        unfold opV at hDo
        simp only [] at hDo
        obtain ⟨e0, f0⟩ := hown.cell hJl q3
        clear hs1 hJW hzl
        generalize J.getD i 0 = z at *
        generalize doN z (x, (i : Int), y) = d at *
        go_wp2_with fail
        have b0 := c0
        have b1 := c1
        have b2 := c2
        have hownW := hown
        have hBW := hB
        have e1 := e0
        have f1 := f0
        obtain ⟨W, hW⟩ : ∃ W : World, W = wr := ⟨_, rfl⟩
        rw [← hW] at b0 b1 b2 hownW hBW e1 f1 ⊢
        clear hW
        refine wp_region_tail (S := (fun w' => w'.cell? ⟨g, off + k * 3, none⟩ = some (.int .i64 x) ∧ w'.cell? ⟨g, off + k * 3 + 1, none⟩ = some (.int .i64 (i : Int)) ∧ w'.cell? ⟨g, off + k * 3 + 2, none⟩ = some (.int .u64 (y : Nat)) ∧ w'.cell? ⟨go, i, none⟩ = some (.int .u64 (z : Nat)) ∧ w'.frozen? ⟨go, i, none⟩ = false ∧ Below W.heap.size W w')) (n := 20) (by kernel_rfl) ?_ (fun hHeld hInv => ?_) (by decide)
        · (try dsimp only)
          (first | assumption | (exact ⟨b0, b1, b2, e1, f1, (Below.refl _ _).drew⟩) | ((try go_split_ands); exact ⟨cellK (by assumption) hb, cellK (by assumption) hb, cellK (by assumption) hb, cellK (by assumption) hb, frozK (v := .int .u64 (z : Nat)) (by assumption) (by assumption) hb, Below.trans (by assumption) (hb.mono (Below.size (by assumption)))⟩))
        refine takeS 0 (v := ?_) (tailAt (by kernel_rfl)) hInv (by decide) rfl (by kernel_rfl) (by kernel_rfl) (by kernel_rfl) (fun _ _ _ h => h) (by rfl) (by assumption) ?_ (fun hInv2 => ?_)
        rotate_left
        · (intro w hSw; (try dsimp only at hSw); (try go_split_ands); go_simp <;> with_reducible rfl)
        clear hInv
        have hInv := hInv2
        clear hInv2
        try simp only [Act.put, List.setIfInBounds_toArray, List.set_cons_zero, List.set_cons_succ] at hInv ⊢
        refine takeS 1 (v := ?_) (tailAt (by kernel_rfl)) hInv (by decide) rfl (by kernel_rfl) (by kernel_rfl) (by kernel_rfl) (fun _ _ _ h => h) (by rfl) (by assumption) ?_ (fun hInv2 => ?_)
        rotate_left
        · (intro w hSw; (try dsimp only at hSw); (try go_split_ands); go_simp <;> with_reducible rfl)
        clear hInv
        have hInv := hInv2
        clear hInv2
        try simp only [Act.put, List.setIfInBounds_toArray, List.set_cons_zero, List.set_cons_succ] at hInv ⊢
        refine takeS 2 (v := ?_) (tailAt (by kernel_rfl)) hInv (by decide) rfl (by kernel_rfl) (by kernel_rfl) (by kernel_rfl) (fun _ _ _ h => h) (by rfl) (by assumption) ?_ (fun hInv2 => ?_)
        rotate_left
        · (intro w hSw; (try dsimp only at hSw); (try go_split_ands); go_simp <;> with_reducible rfl)
        clear hInv
        have hInv := hInv2
        clear hInv2
        try simp only [Act.put, List.setIfInBounds_toArray, List.set_cons_zero, List.set_cons_succ] at hInv ⊢
        refine takeS 3 (v := ?_) (tailAt (by kernel_rfl)) hInv (by decide) rfl (by kernel_rfl) (by kernel_rfl) (by kernel_rfl) (fun _ _ _ h => h) (by rfl) (by assumption) ?_ (fun hInv2 => ?_)
        rotate_left
        · (intro w hSw; (try dsimp only at hSw); (try go_split_ands); go_simp <;> with_reducible rfl)
        clear hInv
        have hInv := hInv2
        clear hInv2
        try simp only [Act.put, List.setIfInBounds_toArray, List.set_cons_zero, List.set_cons_succ] at hInv ⊢
        refine takeS 4 (v := ?_) (tailAt (by kernel_rfl)) hInv (by decide) rfl (by kernel_rfl) (by kernel_rfl) (by kernel_rfl) (fun _ _ _ h => h) (by rfl) (by assumption) ?_ (fun hInv2 => ?_)
        rotate_left
        · (intro w hSw; (try dsimp only at hSw); (try go_split_ands); go_simp <;> with_reducible rfl)
        clear hInv
        have hInv := hInv2
        clear hInv2
        try simp only [Act.put, List.setIfInBounds_toArray, List.set_cons_zero, List.set_cons_succ] at hInv ⊢
        refine takeS 5 (v := ?_) (tailAt (by kernel_rfl)) hInv (by decide) rfl (by kernel_rfl) (by kernel_rfl) (by kernel_rfl) (fun _ _ _ h => h) (by rfl) (by assumption) ?_ (fun hInv2 => ?_)
        rotate_left
        · (intro w hSw; (try dsimp only at hSw); (try go_split_ands); go_simp <;> with_reducible rfl)
        clear hInv
        have hInv := hInv2
        clear hInv2
        try simp only [Act.put, List.setIfInBounds_toArray, List.set_cons_zero, List.set_cons_succ] at hInv ⊢
        refine takeS 6 (v := ?_) (tailAt (by kernel_rfl)) hInv (by decide) rfl (by kernel_rfl) (by kernel_rfl) (by kernel_rfl) (fun _ _ _ h => h) (by rfl) (by assumption) ?_ (fun hInv2 => ?_)
        rotate_left
        · (intro w hSw; (try dsimp only at hSw); (try go_split_ands); go_simp <;> with_reducible rfl)
        clear hInv
        have hInv := hInv2
        clear hInv2
        try simp only [Act.put, List.setIfInBounds_toArray, List.set_cons_zero, List.set_cons_succ] at hInv ⊢
        refine takeS 7 (v := ?_) (tailAt (by kernel_rfl)) hInv (by decide) rfl (by kernel_rfl) (by kernel_rfl) (by kernel_rfl) (fun _ _ _ h => h) (by rfl) (by assumption) ?_ (fun hInv2 => ?_)
        rotate_left
        · (intro w hSw; (try dsimp only at hSw); (try go_split_ands); go_simp <;> with_reducible rfl)
        clear hInv
        have hInv := hInv2
        clear hInv2
        try simp only [Act.put, List.setIfInBounds_toArray, List.set_cons_zero, List.set_cons_succ] at hInv ⊢
        refine takeS 8 (v := ?_) (tailAt (by kernel_rfl)) hInv (by decide) rfl (by kernel_rfl) (by kernel_rfl) (by kernel_rfl) (fun _ _ _ h => h) (by rfl) (by assumption) ?_ (fun hInv2 => ?_)
        rotate_left
        · (intro w hSw; (try dsimp only at hSw); (try go_split_ands); go_simp <;> with_reducible rfl)
        clear hInv
        have hInv := hInv2
        clear hInv2
        try simp only [Act.put, List.setIfInBounds_toArray, List.set_cons_zero, List.set_cons_succ] at hInv ⊢
        refine takeS 9 (v := ?_) (tailAt (by kernel_rfl)) hInv (by decide) rfl (by kernel_rfl) (by kernel_rfl) (by kernel_rfl) (fun _ _ _ h => h) (by rfl) (by assumption) ?_ (fun hInv2 => ?_)
        rotate_left
        · (intro w hSw; (try dsimp only at hSw); (try go_split_ands); go_simp <;> with_reducible rfl)
        clear hInv
        have hInv := hInv2
        clear hInv2
        try simp only [Act.put, List.setIfInBounds_toArray, List.set_cons_zero, List.set_cons_succ] at hInv ⊢
        refine takeS 10 (v := ?_) (tailAt (by kernel_rfl)) hInv (by decide) rfl (by kernel_rfl) (by kernel_rfl) (by kernel_rfl) (fun _ _ _ h => h) (by rfl) (by assumption) ?_ (fun hInv2 => ?_)
        rotate_left
        · (intro w hSw; (try dsimp only at hSw); (try go_split_ands); go_simp <;> with_reducible rfl)
        clear hInv
        have hInv := hInv2
        clear hInv2
        try simp only [Act.put, List.setIfInBounds_toArray, List.set_cons_zero, List.set_cons_succ] at hInv ⊢
        refine takeS 11 (v := ?_) (tailAt (by kernel_rfl)) hInv (by decide) rfl (by kernel_rfl) (by kernel_rfl) (by kernel_rfl) (fun _ _ _ h => h) (by rfl) (by assumption) ?_ (fun hInv2 => ?_)
        rotate_left
        · (intro w hSw; (try dsimp only at hSw); (try go_split_ands); go_simp <;> with_reducible rfl)
        clear hInv
        have hInv := hInv2
        clear hInv2
        try simp only [Act.put, List.setIfInBounds_toArray, List.set_cons_zero, List.set_cons_succ] at hInv ⊢
        refine takeS 12 (v := ?_) (tailAt (by kernel_rfl)) hInv (by decide) rfl (by kernel_rfl) (by kernel_rfl) (by kernel_rfl) (fun _ _ _ h => h) (by rfl) (by assumption) ?_ (fun hInv2 => ?_)
        rotate_left
        · (intro w hSw; (try dsimp only at hSw); (try go_split_ands); go_simp <;> with_reducible rfl)
        clear hInv
        have hInv := hInv2
        clear hInv2
        try simp only [Act.put, List.setIfInBounds_toArray, List.set_cons_zero, List.set_cons_succ] at hInv ⊢
        refine takeS 13 (v := ?_) (tailAt (by kernel_rfl)) hInv (by decide) rfl (by kernel_rfl) (by kernel_rfl) (by kernel_rfl) (fun _ _ _ h => h) (by rfl) (by assumption) ?_ (fun hInv2 => ?_)
        rotate_left
        · (intro w hSw; (try dsimp only at hSw); (try go_split_ands); go_simp <;> with_reducible rfl)
        clear hInv
        have hInv := hInv2
        clear hInv2
        try simp only [Act.put, List.setIfInBounds_toArray, List.set_cons_zero, List.set_cons_succ] at hInv ⊢
        refine takeS 14 (v := ?_) (tailAt (by kernel_rfl)) hInv (by decide) rfl (by kernel_rfl) (by kernel_rfl) (by kernel_rfl) (fun _ _ _ h => h) (by rfl) (by assumption) ?_ (fun hInv2 => ?_)
        rotate_left
        · (intro w hSw; (try dsimp only at hSw); (try go_split_ands); go_simp <;> with_reducible rfl)
        clear hInv
        have hInv := hInv2
        clear hInv2
        try simp only [Act.put, List.setIfInBounds_toArray, List.set_cons_zero, List.set_cons_succ] at hInv ⊢
        refine takeS 15 (v := ?_) (tailAt (by kernel_rfl)) hInv (by decide) rfl (by kernel_rfl) (by kernel_rfl) (by kernel_rfl) (fun _ _ _ h => h) (by rfl) (by assumption) ?_ (fun hInv2 => ?_)
        rotate_left
        · (intro w hSw; (try dsimp only at hSw); (try go_split_ands); go_simp <;> with_reducible rfl)
        clear hInv
        have hInv := hInv2
        clear hInv2
        try simp only [Act.put, List.setIfInBounds_toArray, List.set_cons_zero, List.set_cons_succ] at hInv ⊢
        refine takeS 16 (v := ?_) (tailAt (by kernel_rfl)) hInv (by decide) rfl (by kernel_rfl) (by kernel_rfl) (by kernel_rfl) (fun _ _ _ h => h) (by rfl) (by assumption) ?_ (fun hInv2 => ?_)
        rotate_left
        · (intro w hSw; (try dsimp only at hSw); (try go_split_ands); go_simp <;> with_reducible rfl)
        clear hInv
        have hInv := hInv2
        clear hInv2
        try simp only [Act.put, List.setIfInBounds_toArray, List.set_cons_zero, List.set_cons_succ] at hInv ⊢
        refine takeS 17 (v := ?_) (tailAt (by kernel_rfl)) hInv (by decide) rfl (by kernel_rfl) (by kernel_rfl) (by kernel_rfl) (fun _ _ _ h => h) (by rfl) (by assumption) ?_ (fun hInv2 => ?_)
        rotate_left
        · (intro w hSw; (try dsimp only at hSw); (try go_split_ands); go_simp <;> with_reducible rfl)
        clear hInv
        have hInv := hInv2
        clear hInv2
        try simp only [Act.put, List.setIfInBounds_toArray, List.set_cons_zero, List.set_cons_succ] at hInv ⊢
        refine oneS 18 hInv (by decide) rfl (by kernel_rfl) (fun K hK => ?_)
        go_simp
        ((with_reducible refine (hDo.out _).mono ?_); rintro e w8 ⟨rfl, hb⟩)
        refine hK.out _ _ ?_ (fun hHeld2 hInv2 => ?_)
        · (try dsimp only)
          (first | assumption | (exact ⟨b0, b1, b2, e1, f1, (Below.refl _ _).drew⟩) | ((try go_split_ands); exact ⟨cellK (by assumption) hb, cellK (by assumption) hb, cellK (by assumption) hb, cellK (by assumption) hb, frozK (v := .int .u64 (z : Nat)) (by assumption) (by assumption) hb, Below.trans (by assumption) (hb.mono (Below.size (by assumption)))⟩))
        clear hK K hHeld hInv
        have hHeld := hHeld2
        have hInv := hInv2
        clear hHeld2 hInv2
        try simp only [Act.put, List.setIfInBounds_toArray, List.set_cons_zero, List.set_cons_succ] at hInv ⊢
        refine takeS 19 (v := ?_) (tailAt (by kernel_rfl)) hInv (by decide) rfl (by kernel_rfl) (by kernel_rfl) (by kernel_rfl) (fun _ _ _ h => h) (by rfl) (by assumption) ?_ (fun hInv2 => ?_)
        rotate_left
        · (intro w hSw; (try dsimp only at hSw); (try go_split_ands); go_simp <;> with_reducible rfl)
        clear hInv
        have hInv := hInv2
        clear hInv2
        try simp only [Act.put, List.setIfInBounds_toArray, List.set_cons_zero, List.set_cons_succ] at hInv ⊢
        refine lastS 20 rfl (by decide) (by kernel_rfl) (fun K hK => ?_)
        obtain ⟨_, _, _, r0, r1, hbL⟩ := id hHeld
        go_simp
        refine hK.out _ _ ?_
        clear hK K
        refine wpAnyS_done (by kernel_rfl) ?_ _
        obtain ⟨_, _, _, r0, r1, hbL⟩ := id hHeld
        have hownN := (hownW.keep hbL).set (y := d) hJl q3
        rw [hR.out] at hownN
        obtain ⟨J2, hJ2⟩ : ∃ J2, J2 = applyL I (l.take (k + 1)) := ⟨_, rfl⟩
        rw [← hJ2] at hownN
        replace hJ2 := Lib.hid hJ2
        have hBN : Below w.heap.size w (w8.setCell ⟨go, i, none⟩ (.int .u64 (d : Nat))) := (hBW.trans (hbL.mono hBW.size)).setCell (by simp only []; omega) _
        clear hHeld hInv r0 r1 hown hB hownW hBW hR
        go_wp2_with fail
        go_roundw
        case rel => exact ⟨k + 1, _, by omega, by go_num, hJ2, hownN, hBN⟩
        case measure => simp [intOf]; omega
    · have hR : J = applyL I l := by
        have hkn : k = n := by omega
        rw [hJ.out, hkn, hE.out]
      replace hR := Lib.hid hR
      obtain rfl : k = n := by omega
      go_wp2_with fail
      go_ret
      exact ⟨_, rfl, by rw [← hR.out]; exact hown, hB⟩
end Go.Proofs.Ytibhahbimoiaaaa
