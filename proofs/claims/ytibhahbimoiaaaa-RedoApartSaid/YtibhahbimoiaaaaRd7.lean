/-
  The words of operations: the document's Encode.
-/
import Derived.Test.YtibhahbimoiaaaaRd6
set_option linter.unusedVariables false
set_option linter.unusedSimpArgs false
namespace Go.Proofs.Ytibhahbimoiaaaa
open Go.RowKit Go.ChangeShapes Go.WideShapes Go.Deep

set_option maxRecDepth 10000 in
set_option maxHeartbeats 4000000 in
theorem refEnc_ok (v : Value) (l : List Ox) (w : World) (hv : OPL w v l) (ho : OVs l) (hr : rightB l = true) :
    Calls Try.prog 16 #[v] w fun e w' => ∃ v', e = .returned (.tuple #[v', .int .i64 0]) ∧ SL w' v' (encS l) ∧ Below w.heap.size w w' := by
  obtain ⟨hl19, hall⟩ := rightB_t hr
  have hW := Lib.hid (fun k (hk : k < l.length) => show wrongB (l.getD k default) = false from hall _ (by rw [List.getD_eq_getElem?_getD, List.getElem?_eq_getElem (by omega)]; exact List.getElem_mem _))
  have hOf := Lib.hid (fun v' w1 (h : OwnU w1 w.heap.size v' (encW l)) => refOf_any v' (encW l) w1 (encW_WL hall ho) (by rw [encW_len]; omega) h.kl.sl)
  have hEs := Lib.hid (show encW l ++ [moreN 0 (encW l)] = encS l from rfl)
  have hmn := moreN_lt 0 (encW l)
  clear hr hall
  obtain ⟨n, hn⟩ : ∃ n, l.length = n := ⟨_, rfl⟩
  obtain ⟨A, cap, rfl, hC⟩ := hv.form hn
  have hS := Lib.hid (fun k (hk : k < n) => show encW (l.take (k + 1)) = encW (l.take k) ++ [wN (l.getD k default), (l.getD k default).2.2] from encW_take l k (by omega))
  have hE := Lib.hid (show encW (l.take n) = encW l from by rw [List.take_of_length_le (by omega)])
  have hZ := Lib.hid (show encW (l.take 0) = [] from by simp [encW])
  have hLn := Lib.hid (fun k (hk : k ≤ n) => show (encW (l.take k)).length = 2 * k from by rw [encW_len, List.length_take]; omega)
  have hV := Lib.hid (fun k (hk : k < n) => ho.at k (by omega))
  replace hC := Lib.hid hC
  have hn9 : n ≤ 19 := by omega
  have h' : (n : Int) ≤ 19 := by omega
  replace hn := Lib.hid hn
  clear hv ho hl19
  go_enter Try.func16, Try.ntmps16
  go_wp2_with fail
  go_loopw [5, 4] (fun i wd wr => ∃ (k : Nat) (J : List Nat), k ≤ n ∧ i = .int .i64 k ∧ Hid (J = encW (l.take k)) ∧ OwnU wr w.heap.size wd J ∧ Below w.heap.size w wr) (fun i _ _ => n + 1 - (intOf i).toNat)
  case atStart => exact ⟨0, [], Nat.zero_le _, rfl, Lib.hid hZ.out.symm, World.ownsRow_nil _ _ _ _, Below.refl _ _⟩
  case round =>
    obtain ⟨k, J, hk, rfl, hJ, hown, hB⟩ := hrel
    by_cases hlt : k < n
    · obtain ⟨g, off, rfl, hcap, hgw, hg, c0, c1, c2⟩ := hC.out wr k hB hlt
      have hlt' : (k : Int) < (n : Int) := by omega
      have hs1 := hS.out k hlt
      have hJl : J.length = 2 * k := by rw [hJ.out]; exact hLn.out k hk
      have hov := hV.out k hlt
      rw [← hJ.out] at hs1
      have hw1 := hW.out k (by have := hn.out; omega)
      generalize l.getD k default = o at *
      have hCa := fun w => can_any o w
      rw [hw1] at hCa
      simp only [Bool.not_false] at hCa
      obtain ⟨p1, p2, p3, p4⟩ := wrongB_f hw1
      have hWd := wN_eq hw1
      unfold wordOp at hWd
      generalize wN o = wd at *
      obtain ⟨x, a, y⟩ := o
      unfold opV at hCa
      simp only [] at c0 c1 c2 hov hs1 hCa p1 p2 p3 p4 hWd
      replace hCa := Lib.hid hCa
      replace hs1 := Lib.hid hs1
      have fa : IntKind.u64.wrap a = a := by rw [IntKind.wrap_u64]; omega
      have fk : IntKind.u64.wrap x = x := by rw [IntKind.wrap_u64]; omega
      have fm : IntKind.u64.wrap (4 * a) = 4 * a := by rw [IntKind.wrap_u64]; omega
      have fs : IntKind.u64.wrap (4 * a + x) = (wd : Int) := by rw [IntKind.wrap_u64, ← hWd]; omega
      replace hWd := Lib.hid hWd
      clear hw1
      go_wp2_with fail
      refine (hCa.out _).mono ?_
      rintro e W ⟨rfl, hbC⟩
      have b0 := cellK c0 hbC
      have b1 := cellK c1 hbC
      have b2 := cellK c2 hbC
      have hownW := hown.keep hbC
      have hBW := hB.trans (hbC.mono hB.size)
      clear hown hB hbC
      go_wp2_with fail
      refine wp_region_tail (S := (fun w' => w'.cell? ⟨g, off + k * 3, none⟩ = some (.int .i64 x) ∧ w'.cell? ⟨g, off + k * 3 + 1, none⟩ = some (.int .i64 a) ∧ w'.cell? ⟨g, off + k * 3 + 2, none⟩ = some (.int .u64 (y : Nat)) ∧ Below W.heap.size W w')) (n := 21) (by kernel_rfl) ?_ (fun hHeld hInv => ?_) (by decide)
      · (try dsimp only)
        (first | assumption | (exact ⟨b0, b1, b2, (Below.refl _ _).drew⟩) | ((try go_split_ands); exact ⟨cellK (by assumption) hb, cellK (by assumption) hb, cellK (by assumption) hb, Below.trans (by assumption) (hb.mono (Below.size (by assumption)))⟩))
      refine takeS 0 (v := ?_) (tailAt (by kernel_rfl)) hInv (by decide) rfl (by kernel_rfl) (by kernel_rfl) (by kernel_rfl) (fun _ _ _ h => h) (by rfl) (by assumption) ?_ (fun hInv2 => ?_)
      rotate_left
      · (intro w hSw; (try dsimp only at hSw); (try go_split_ands); go_simp <;> with_reducible rfl)
      clear hInv
      have hInv := hInv2
      clear hInv2
      try simp only [Act.put, List.setIfInBounds_toArray, List.set_cons_zero, List.set_cons_succ] at hInv ⊢
      refine takeS 1 (v := ?_) (tailAt (by kernel_rfl)) hInv (by decide) rfl (by kernel_rfl) (by kernel_rfl) (by kernel_rfl) (fun _ _ _ h => h) (by rfl) (by assumption) ?_ (fun hInv2 => ?_)
      rotate_left
      · (intro w hSw; (try dsimp only at hSw); (try go_split_ands); go_simp <;> with_reducible rfl)
      clear hInv
      have hInv := hInv2
      clear hInv2
      try simp only [Act.put, List.setIfInBounds_toArray, List.set_cons_zero, List.set_cons_succ] at hInv ⊢
      refine takeS 2 (v := ?_) (tailAt (by kernel_rfl)) hInv (by decide) rfl (by kernel_rfl) (by kernel_rfl) (by kernel_rfl) (fun _ _ _ h => h) (by rfl) (by assumption) ?_ (fun hInv2 => ?_)
      rotate_left
      · (intro w hSw; (try dsimp only at hSw); (try go_split_ands); go_simp <;> with_reducible rfl)
      clear hInv
      have hInv := hInv2
      clear hInv2
      try simp only [Act.put, List.setIfInBounds_toArray, List.set_cons_zero, List.set_cons_succ] at hInv ⊢
      refine takeS 3 (v := ?_) (tailAt (by kernel_rfl)) hInv (by decide) rfl (by kernel_rfl) (by kernel_rfl) (by kernel_rfl) (fun _ _ _ h => h) (by rfl) (by assumption) ?_ (fun hInv2 => ?_)
      rotate_left
      · (intro w hSw; (try dsimp only at hSw); (try go_split_ands); go_simp <;> with_reducible rfl)
      clear hInv
      have hInv := hInv2
      clear hInv2
      try simp only [Act.put, List.setIfInBounds_toArray, List.set_cons_zero, List.set_cons_succ] at hInv ⊢
      refine takeS 4 (v := ?_) (tailAt (by kernel_rfl)) hInv (by decide) rfl (by kernel_rfl) (by kernel_rfl) (by kernel_rfl) (fun _ _ _ h => h) (by rfl) (by assumption) ?_ (fun hInv2 => ?_)
      rotate_left
      · (intro w hSw; (try dsimp only at hSw); (try go_split_ands); go_simp <;> with_reducible rfl)
      clear hInv
      have hInv := hInv2
      clear hInv2
      try simp only [Act.put, List.setIfInBounds_toArray, List.set_cons_zero, List.set_cons_succ] at hInv ⊢
      refine takeS 5 (v := ?_) (tailAt (by kernel_rfl)) hInv (by decide) rfl (by kernel_rfl) (by kernel_rfl) (by kernel_rfl) (fun _ _ _ h => h) (by rfl) (by assumption) ?_ (fun hInv2 => ?_)
      rotate_left
      · (intro w hSw; (try dsimp only at hSw); (try go_split_ands); go_simp <;> with_reducible rfl)
      clear hInv
      have hInv := hInv2
      clear hInv2
      try simp only [Act.put, List.setIfInBounds_toArray, List.set_cons_zero, List.set_cons_succ] at hInv ⊢
      refine takeS 6 (v := ?_) (tailAt (by kernel_rfl)) hInv (by decide) rfl (by kernel_rfl) (by kernel_rfl) (by kernel_rfl) (fun _ _ _ h => h) (by rfl) (by assumption) ?_ (fun hInv2 => ?_)
      rotate_left
      · (intro w hSw; (try dsimp only at hSw); (try go_split_ands); go_simp <;> with_reducible rfl)
      clear hInv
      have hInv := hInv2
      clear hInv2
      try simp only [Act.put, List.setIfInBounds_toArray, List.set_cons_zero, List.set_cons_succ] at hInv ⊢
      refine takeS 7 (v := ?_) (tailAt (by kernel_rfl)) hInv (by decide) rfl (by kernel_rfl) (by kernel_rfl) (by kernel_rfl) (fun _ _ _ h => h) (by rfl) (by assumption) ?_ (fun hInv2 => ?_)
      rotate_left
      · (intro w hSw; (try dsimp only at hSw); (try go_split_ands); go_simp <;> with_reducible rfl)
      clear hInv
      have hInv := hInv2
      clear hInv2
      try simp only [Act.put, List.setIfInBounds_toArray, List.set_cons_zero, List.set_cons_succ] at hInv ⊢
      refine takeS 8 (v := ?_) (tailAt (by kernel_rfl)) hInv (by decide) rfl (by kernel_rfl) (by kernel_rfl) (by kernel_rfl) (fun _ _ _ h => h) (by rfl) (by assumption) ?_ (fun hInv2 => ?_)
      rotate_left
      · (intro w hSw; (try dsimp only at hSw); (try go_split_ands); go_simp <;> with_reducible rfl)
      clear hInv
      have hInv := hInv2
      clear hInv2
      try simp only [Act.put, List.setIfInBounds_toArray, List.set_cons_zero, List.set_cons_succ] at hInv ⊢
      refine takeS 9 (v := ?_) (tailAt (by kernel_rfl)) hInv (by decide) rfl (by kernel_rfl) (by kernel_rfl) (by kernel_rfl) (fun _ _ _ h => h) (by rfl) (by assumption) ?_ (fun hInv2 => ?_)
      rotate_left
      · (intro w hSw; (try dsimp only at hSw); (try go_split_ands); go_simp <;> with_reducible rfl)
      clear hInv
      have hInv := hInv2
      clear hInv2
      try simp only [Act.put, List.setIfInBounds_toArray, List.set_cons_zero, List.set_cons_succ] at hInv ⊢
      refine takeS 10 (v := ?_) (tailAt (by kernel_rfl)) hInv (by decide) rfl (by kernel_rfl) (by kernel_rfl) (by kernel_rfl) (fun _ _ _ h => h) (by rfl) (by assumption) ?_ (fun hInv2 => ?_)
      rotate_left
      · (intro w hSw; (try dsimp only at hSw); (try go_split_ands); go_simp <;> with_reducible rfl)
      clear hInv
      have hInv := hInv2
      clear hInv2
      try simp only [Act.put, List.setIfInBounds_toArray, List.set_cons_zero, List.set_cons_succ] at hInv ⊢
      refine takeS 11 (v := ?_) (tailAt (by kernel_rfl)) hInv (by decide) rfl (by kernel_rfl) (by kernel_rfl) (by kernel_rfl) (fun _ _ _ h => h) (by rfl) (by assumption) ?_ (fun hInv2 => ?_)
      rotate_left
      · (intro w hSw; (try dsimp only at hSw); (try go_split_ands); go_simp <;> with_reducible rfl)
      clear hInv
      have hInv := hInv2
      clear hInv2
      try simp only [Act.put, List.setIfInBounds_toArray, List.set_cons_zero, List.set_cons_succ] at hInv ⊢
      refine takeS 12 (v := ?_) (tailAt (by kernel_rfl)) hInv (by decide) rfl (by kernel_rfl) (by kernel_rfl) (by kernel_rfl) (fun _ _ _ h => h) (by rfl) (by assumption) ?_ (fun hInv2 => ?_)
      rotate_left
      · (intro w hSw; (try dsimp only at hSw); (try go_split_ands); go_simp <;> with_reducible rfl)
      clear hInv
      have hInv := hInv2
      clear hInv2
      try simp only [Act.put, List.setIfInBounds_toArray, List.set_cons_zero, List.set_cons_succ] at hInv ⊢
      refine takeS 13 (v := ?_) (tailAt (by kernel_rfl)) hInv (by decide) rfl (by kernel_rfl) (by kernel_rfl) (by kernel_rfl) (fun _ _ _ h => h) (by rfl) (by assumption) ?_ (fun hInv2 => ?_)
      rotate_left
      · (intro w hSw; (try dsimp only at hSw); (try go_split_ands); go_simp <;> with_reducible rfl)
      clear hInv
      have hInv := hInv2
      clear hInv2
      try simp only [Act.put, List.setIfInBounds_toArray, List.set_cons_zero, List.set_cons_succ] at hInv ⊢
      refine takeS 14 (v := ?_) (tailAt (by kernel_rfl)) hInv (by decide) rfl (by kernel_rfl) (by kernel_rfl) (by kernel_rfl) (fun _ _ _ h => h) (by rfl) (by assumption) ?_ (fun hInv2 => ?_)
      rotate_left
      · (intro w hSw; (try dsimp only at hSw); (try go_split_ands); go_simp <;> with_reducible rfl)
      clear hInv
      have hInv := hInv2
      clear hInv2
      try simp only [Act.put, List.setIfInBounds_toArray, List.set_cons_zero, List.set_cons_succ] at hInv ⊢
      refine takeS 15 (v := ?_) (tailAt (by kernel_rfl)) hInv (by decide) rfl (by kernel_rfl) (by kernel_rfl) (by kernel_rfl) (fun _ _ _ h => h) (by rfl) (by assumption) ?_ (fun hInv2 => ?_)
      rotate_left
      · (intro w hSw; (try dsimp only at hSw); (try go_split_ands); go_simp <;> with_reducible rfl)
      clear hInv
      have hInv := hInv2
      clear hInv2
      try simp only [Act.put, List.setIfInBounds_toArray, List.set_cons_zero, List.set_cons_succ] at hInv ⊢
      refine takeS 16 (v := ?_) (tailAt (by kernel_rfl)) hInv (by decide) rfl (by kernel_rfl) (by kernel_rfl) (by kernel_rfl) (fun _ _ _ h => h) (by rfl) (by assumption) ?_ (fun hInv2 => ?_)
      rotate_left
      · (intro w hSw; (try dsimp only at hSw); (try go_split_ands); go_simp <;> with_reducible rfl)
      clear hInv
      have hInv := hInv2
      clear hInv2
      try simp only [Act.put, List.setIfInBounds_toArray, List.set_cons_zero, List.set_cons_succ] at hInv ⊢
      refine takeS 17 (v := ?_) (tailAt (by kernel_rfl)) hInv (by decide) rfl (by kernel_rfl) (by kernel_rfl) (by kernel_rfl) (fun _ _ _ h => h) (by rfl) (by assumption) ?_ (fun hInv2 => ?_)
      rotate_left
      · (intro w hSw; (try dsimp only at hSw); (try go_split_ands); go_simp <;> with_reducible rfl)
      clear hInv
      have hInv := hInv2
      clear hInv2
      try simp only [Act.put, List.setIfInBounds_toArray, List.set_cons_zero, List.set_cons_succ] at hInv ⊢
      refine takeS 18 (v := ?_) (tailAt (by kernel_rfl)) hInv (by decide) rfl (by kernel_rfl) (by kernel_rfl) (by kernel_rfl) (fun _ _ _ h => h) (by rfl) (by assumption) ?_ (fun hInv2 => ?_)
      rotate_left
      · (intro w hSw; (try dsimp only at hSw); (try go_split_ands); go_simp <;> with_reducible rfl)
      clear hInv
      have hInv := hInv2
      clear hInv2
      try simp only [Act.put, List.setIfInBounds_toArray, List.set_cons_zero, List.set_cons_succ] at hInv ⊢
      refine takeS 19 (v := ?_) (tailAt (by kernel_rfl)) hInv (by decide) rfl (by kernel_rfl) (by kernel_rfl) (by kernel_rfl) (fun _ _ _ h => h) (by rfl) (by assumption) ?_ (fun hInv2 => ?_)
      rotate_left
      · (intro w hSw; (try dsimp only at hSw); (try go_split_ands); go_simp <;> with_reducible rfl)
      clear hInv
      have hInv := hInv2
      clear hInv2
      try simp only [Act.put, List.setIfInBounds_toArray, List.set_cons_zero, List.set_cons_succ] at hInv ⊢
      refine oneS 20 hInv (by decide) rfl (by kernel_rfl) (fun K hK => ?_)
      go_simp
      have hb := (Below.refl W.drew.heap.size W.drew).alloc (Nat.le_refl _) (.cells #[.int .u64 (wd : Nat), .int .u64 (y : Nat)] (33 : Nat))
      refine hK.out _ _ ?_ (fun hHeld2 hInv2 => ?_)
      · (try dsimp only)
        (first | assumption | (exact ⟨b0, b1, b2, (Below.refl _ _).drew⟩) | ((try go_split_ands); exact ⟨cellK (by assumption) hb, cellK (by assumption) hb, cellK (by assumption) hb, Below.trans (by assumption) (hb.mono (Below.size (by assumption)))⟩))
      clear hK K hHeld hInv
      have hHeld := hHeld2
      have hInv := hInv2
      clear hHeld2 hInv2
      try simp only [Act.put, List.setIfInBounds_toArray, List.set_cons_zero, List.set_cons_succ] at hInv ⊢
      refine lastS 21 rfl (by decide) (by kernel_rfl) (fun K hK => ?_)
      obtain ⟨_, _, _, hbL⟩ := id hHeld
      have hB8 := hBW.trans (hbL.mono hBW.size)
      obtain ⟨v', w4, hrun, ho, hb4⟩ := appW (hownW.keep hbL) (KL.two W.drew wd y (33 : Nat)) hB8.size (by omega) (by simp)
      rw [hs1.out.symm] at ho
      obtain ⟨J2, hJ2⟩ : ∃ J2, J2 = encW (l.take (k + 1)) := ⟨_, rfl⟩
      rw [← hJ2] at ho
      replace hJ2 := Lib.hid hJ2
      have hBN := hB8.trans hb4
      clear hHeld hb4 hbL hs1 hownW hBW
      rw [if_pos (by rfl)]
      refine wp_append_run _ _ _ _ rfl _ _ _ rfl rfl hrun ?_
      refine hK.out _ _ ?_
      clear hK K
      try simp only [Act.put, List.setIfInBounds_toArray, List.set_cons_zero, List.set_cons_succ]
      refine lastS 22 rfl (by decide) (by kernel_rfl) (fun K hK => ?_)
      go_simp
      refine hK.out _ _ ?_
      clear hK K
      try simp only [Act.put, List.setIfInBounds_toArray, List.set_cons_zero, List.set_cons_succ]
      refine wpAnyS_done (by kernel_rfl) ?_ _
      clear hInv hrun hB8
      go_wp2_with fail
      go_roundw
      case rel => exact ⟨k + 1, _, by omega, by go_num, hJ2, ho, hBN⟩
      case measure => simp [intOf]; omega
    · have hkn : k = n := by omega
      obtain rfl := hkn
      have hR : J = encW l := by rw [hJ.out, hE.out]
      subst hR
      clear hJ
      go_wp2_with fail
      refine (hOf.out _ _ hown).mono ?_
      rintro e w9 ⟨rfl, hb9⟩
      have ho9 := hown.keep hb9
      have hB9 := hB.trans (hb9.mono hB.size)
      generalize hmm : moreN 0 (encW l) = m at *
      have f32 : IntKind.u64.wrap (m : Int) = (m : Int) := by rw [IntKind.wrap_u64]; omega
      obtain ⟨v', w4, hrun, ho4, hb4⟩ := appW (ho9.keep ((Below.refl _ _).alloc (Nat.le_refl _) (.cells #[.int .u64 (m : Nat)] (33 : Nat)))) (KL.one w9 m (33 : Nat)) (by have := hB9.size; simp; omega) (by have := hLn.out k (Nat.le_refl _); rw [hE.out] at this; omega) (by simp)
      rw [hEs.out] at ho4
      have hBN := (hB9.alloc hB9.size (.cells #[.int .u64 (m : Nat)] (33 : Nat))).trans hb4
      have hs4 := ho4.kl.sl
      clear hb4 ho4 ho9 hown hB hB9 hb9
      replace hmm := Lib.hid hmm
      go_wp2_with (at_builtin; refine wpList_append_run rfl _ _ 24 rfl _ _ _ rfl rfl hrun ?_)
      go_ret2
      exact ⟨_, rfl, hs4, hBN⟩

set_option maxRecDepth 10000 in
set_option maxHeartbeats 4000000 in
theorem refEnc_arg (v : Value) (l : List Ox) (w : World) (hv : OPL w v l) (ho : OVs l) (hl19 : l.length ≤ 19) (hr : rightB l = false) :
    Calls Try.prog 16 #[v] w fun e w' => e = .returned (.tuple #[.slice none 0 0, .int .i64 1]) ∧ Below w.heap.size w w' := by
  have hX := Lib.hid (fun (h : ∀ j, j < l.length → wrongB (l.getD j default) = false) => show False from by have := rightB_all hl19 h; rw [hr] at this; cases this)
  clear hr
  obtain ⟨n, hn⟩ : ∃ n, l.length = n := ⟨_, rfl⟩
  obtain ⟨A, cap, rfl, hC⟩ := hv.form hn
  have hS := Lib.hid (fun k (hk : k < n) => show encW (l.take (k + 1)) = encW (l.take k) ++ [wN (l.getD k default), (l.getD k default).2.2] from encW_take l k (by omega))
  have hE := Lib.hid (show encW (l.take n) = encW l from by rw [List.take_of_length_le (by omega)])
  have hZ := Lib.hid (show encW (l.take 0) = [] from by simp [encW])
  have hLn := Lib.hid (fun k (hk : k ≤ n) => show (encW (l.take k)).length = 2 * k from by rw [encW_len, List.length_take]; omega)
  have hV := Lib.hid (fun k (hk : k < n) => ho.at k (by omega))
  replace hC := Lib.hid hC
  have hn9 : n ≤ 19 := by omega
  have h' : (n : Int) ≤ 19 := by omega
  replace hn := Lib.hid hn
  clear hv ho hl19
  go_enter Try.func16, Try.ntmps16
  go_wp2_with fail
  go_loopw [5, 4] (fun i wd wr => ∃ (k : Nat) (J : List Nat), k ≤ n ∧ i = .int .i64 k ∧ Hid (J = encW (l.take k)) ∧ Hid (∀ j, j < k → wrongB (l.getD j default) = false) ∧ OwnU wr w.heap.size wd J ∧ Below w.heap.size w wr) (fun i _ _ => n + 1 - (intOf i).toNat)
  case atStart => exact ⟨0, [], Nat.zero_le _, rfl, Lib.hid hZ.out.symm, (fun j hj => by omega), World.ownsRow_nil _ _ _ _, Below.refl _ _⟩
  case round =>
    obtain ⟨k, J, hk, rfl, hJ, hF, hown, hB⟩ := hrel
    by_cases hlt : k < n
    · obtain ⟨g, off, rfl, hcap, hgw, hg, c0, c1, c2⟩ := hC.out wr k hB hlt
      have hlt' : (k : Int) < (n : Int) := by omega
      have hs1 := hS.out k hlt
      have hJl : J.length = 2 * k := by rw [hJ.out]; exact hLn.out k hk
      have hov := hV.out k hlt
      rw [← hJ.out] at hs1
      cases hw1 : wrongB (l.getD k default) with
      | true =>
        generalize l.getD k default = o at *
        have hCa := fun w => can_any o w
        rw [hw1] at hCa
        simp only [Bool.not_true] at hCa
        obtain ⟨x, a, y⟩ := o
        unfold opV at hCa
        simp only [] at c0 c1 c2 hCa
        replace hCa := Lib.hid hCa
        clear hs1 hw1 hov
        go_wp2_with fail
        refine (hCa.out _).mono ?_
        rintro e w2 ⟨rfl, hb⟩
        have hB2 := hB.trans (hb.mono hB.size)
        go_wp2_with fail
        go_ret2
        exact ⟨rfl, hB2⟩
      | false =>
        have hF2 := Lib.hid (fun j (hj : j < k + 1) => show wrongB (l.getD j default) = false from by
          by_cases e : j = k
          · subst e; exact hw1
          · exact hF.out j (by omega))
        generalize l.getD k default = o at *
        have hCa := fun w => can_any o w
        rw [hw1] at hCa
        simp only [Bool.not_false] at hCa
        obtain ⟨p1, p2, p3, p4⟩ := wrongB_f hw1
        have hWd := wN_eq hw1
        unfold wordOp at hWd
        generalize wN o = wd at *
        obtain ⟨x, a, y⟩ := o
        unfold opV at hCa
        simp only [] at c0 c1 c2 hov hs1 hCa p1 p2 p3 p4 hWd
        replace hCa := Lib.hid hCa
        replace hs1 := Lib.hid hs1
        have fa : IntKind.u64.wrap a = a := by rw [IntKind.wrap_u64]; omega
        have fk : IntKind.u64.wrap x = x := by rw [IntKind.wrap_u64]; omega
        have fm : IntKind.u64.wrap (4 * a) = 4 * a := by rw [IntKind.wrap_u64]; omega
        have fs : IntKind.u64.wrap (4 * a + x) = (wd : Int) := by rw [IntKind.wrap_u64, ← hWd]; omega
        replace hWd := Lib.hid hWd
        clear hw1
        go_wp2_with fail
        refine (hCa.out _).mono ?_
        rintro e W ⟨rfl, hbC⟩
        have b0 := cellK c0 hbC
        have b1 := cellK c1 hbC
        have b2 := cellK c2 hbC
        have hownW := hown.keep hbC
        have hBW := hB.trans (hbC.mono hB.size)
        clear hown hB hbC
        go_wp2_with fail
        refine wp_region_tail (S := (fun w' => w'.cell? ⟨g, off + k * 3, none⟩ = some (.int .i64 x) ∧ w'.cell? ⟨g, off + k * 3 + 1, none⟩ = some (.int .i64 a) ∧ w'.cell? ⟨g, off + k * 3 + 2, none⟩ = some (.int .u64 (y : Nat)) ∧ Below W.heap.size W w')) (n := 21) (by kernel_rfl) ?_ (fun hHeld hInv => ?_) (by decide)
        · (try dsimp only)
          (first | assumption | (exact ⟨b0, b1, b2, (Below.refl _ _).drew⟩) | ((try go_split_ands); exact ⟨cellK (by assumption) hb, cellK (by assumption) hb, cellK (by assumption) hb, Below.trans (by assumption) (hb.mono (Below.size (by assumption)))⟩))
        refine takeS 0 (v := ?_) (tailAt (by kernel_rfl)) hInv (by decide) rfl (by kernel_rfl) (by kernel_rfl) (by kernel_rfl) (fun _ _ _ h => h) (by rfl) (by assumption) ?_ (fun hInv2 => ?_)
        rotate_left
        · (intro w hSw; (try dsimp only at hSw); (try go_split_ands); go_simp <;> with_reducible rfl)
        clear hInv
        have hInv := hInv2
        clear hInv2
        try simp only [Act.put, List.setIfInBounds_toArray, List.set_cons_zero, List.set_cons_succ] at hInv ⊢
        refine takeS 1 (v := ?_) (tailAt (by kernel_rfl)) hInv (by decide) rfl (by kernel_rfl) (by kernel_rfl) (by kernel_rfl) (fun _ _ _ h => h) (by rfl) (by assumption) ?_ (fun hInv2 => ?_)
        rotate_left
        · (intro w hSw; (try dsimp only at hSw); (try go_split_ands); go_simp <;> with_reducible rfl)
        clear hInv
        have hInv := hInv2
        clear hInv2
        try simp only [Act.put, List.setIfInBounds_toArray, List.set_cons_zero, List.set_cons_succ] at hInv ⊢
        refine takeS 2 (v := ?_) (tailAt (by kernel_rfl)) hInv (by decide) rfl (by kernel_rfl) (by kernel_rfl) (by kernel_rfl) (fun _ _ _ h => h) (by rfl) (by assumption) ?_ (fun hInv2 => ?_)
        rotate_left
        · (intro w hSw; (try dsimp only at hSw); (try go_split_ands); go_simp <;> with_reducible rfl)
        clear hInv
        have hInv := hInv2
        clear hInv2
        try simp only [Act.put, List.setIfInBounds_toArray, List.set_cons_zero, List.set_cons_succ] at hInv ⊢
        refine takeS 3 (v := ?_) (tailAt (by kernel_rfl)) hInv (by decide) rfl (by kernel_rfl) (by kernel_rfl) (by kernel_rfl) (fun _ _ _ h => h) (by rfl) (by assumption) ?_ (fun hInv2 => ?_)
        rotate_left
        · (intro w hSw; (try dsimp only at hSw); (try go_split_ands); go_simp <;> with_reducible rfl)
        clear hInv
        have hInv := hInv2
        clear hInv2
        try simp only [Act.put, List.setIfInBounds_toArray, List.set_cons_zero, List.set_cons_succ] at hInv ⊢
        refine takeS 4 (v := ?_) (tailAt (by kernel_rfl)) hInv (by decide) rfl (by kernel_rfl) (by kernel_rfl) (by kernel_rfl) (fun _ _ _ h => h) (by rfl) (by assumption) ?_ (fun hInv2 => ?_)
        rotate_left
        · (intro w hSw; (try dsimp only at hSw); (try go_split_ands); go_simp <;> with_reducible rfl)
        clear hInv
        have hInv := hInv2
        clear hInv2
        try simp only [Act.put, List.setIfInBounds_toArray, List.set_cons_zero, List.set_cons_succ] at hInv ⊢
        refine takeS 5 (v := ?_) (tailAt (by kernel_rfl)) hInv (by decide) rfl (by kernel_rfl) (by kernel_rfl) (by kernel_rfl) (fun _ _ _ h => h) (by rfl) (by assumption) ?_ (fun hInv2 => ?_)
        rotate_left
        · (intro w hSw; (try dsimp only at hSw); (try go_split_ands); go_simp <;> with_reducible rfl)
        clear hInv
        have hInv := hInv2
        clear hInv2
        try simp only [Act.put, List.setIfInBounds_toArray, List.set_cons_zero, List.set_cons_succ] at hInv ⊢
        refine takeS 6 (v := ?_) (tailAt (by kernel_rfl)) hInv (by decide) rfl (by kernel_rfl) (by kernel_rfl) (by kernel_rfl) (fun _ _ _ h => h) (by rfl) (by assumption) ?_ (fun hInv2 => ?_)
        rotate_left
        · (intro w hSw; (try dsimp only at hSw); (try go_split_ands); go_simp <;> with_reducible rfl)
        clear hInv
        have hInv := hInv2
        clear hInv2
        try simp only [Act.put, List.setIfInBounds_toArray, List.set_cons_zero, List.set_cons_succ] at hInv ⊢
        refine takeS 7 (v := ?_) (tailAt (by kernel_rfl)) hInv (by decide) rfl (by kernel_rfl) (by kernel_rfl) (by kernel_rfl) (fun _ _ _ h => h) (by rfl) (by assumption) ?_ (fun hInv2 => ?_)
        rotate_left
        · (intro w hSw; (try dsimp only at hSw); (try go_split_ands); go_simp <;> with_reducible rfl)
        clear hInv
        have hInv := hInv2
        clear hInv2
        try simp only [Act.put, List.setIfInBounds_toArray, List.set_cons_zero, List.set_cons_succ] at hInv ⊢
        refine takeS 8 (v := ?_) (tailAt (by kernel_rfl)) hInv (by decide) rfl (by kernel_rfl) (by kernel_rfl) (by kernel_rfl) (fun _ _ _ h => h) (by rfl) (by assumption) ?_ (fun hInv2 => ?_)
        rotate_left
        · (intro w hSw; (try dsimp only at hSw); (try go_split_ands); go_simp <;> with_reducible rfl)
        clear hInv
        have hInv := hInv2
        clear hInv2
        try simp only [Act.put, List.setIfInBounds_toArray, List.set_cons_zero, List.set_cons_succ] at hInv ⊢
        refine takeS 9 (v := ?_) (tailAt (by kernel_rfl)) hInv (by decide) rfl (by kernel_rfl) (by kernel_rfl) (by kernel_rfl) (fun _ _ _ h => h) (by rfl) (by assumption) ?_ (fun hInv2 => ?_)
        rotate_left
        · (intro w hSw; (try dsimp only at hSw); (try go_split_ands); go_simp <;> with_reducible rfl)
        clear hInv
        have hInv := hInv2
        clear hInv2
        try simp only [Act.put, List.setIfInBounds_toArray, List.set_cons_zero, List.set_cons_succ] at hInv ⊢
        refine takeS 10 (v := ?_) (tailAt (by kernel_rfl)) hInv (by decide) rfl (by kernel_rfl) (by kernel_rfl) (by kernel_rfl) (fun _ _ _ h => h) (by rfl) (by assumption) ?_ (fun hInv2 => ?_)
        rotate_left
        · (intro w hSw; (try dsimp only at hSw); (try go_split_ands); go_simp <;> with_reducible rfl)
        clear hInv
        have hInv := hInv2
        clear hInv2
        try simp only [Act.put, List.setIfInBounds_toArray, List.set_cons_zero, List.set_cons_succ] at hInv ⊢
        refine takeS 11 (v := ?_) (tailAt (by kernel_rfl)) hInv (by decide) rfl (by kernel_rfl) (by kernel_rfl) (by kernel_rfl) (fun _ _ _ h => h) (by rfl) (by assumption) ?_ (fun hInv2 => ?_)
        rotate_left
        · (intro w hSw; (try dsimp only at hSw); (try go_split_ands); go_simp <;> with_reducible rfl)
        clear hInv
        have hInv := hInv2
        clear hInv2
        try simp only [Act.put, List.setIfInBounds_toArray, List.set_cons_zero, List.set_cons_succ] at hInv ⊢
        refine takeS 12 (v := ?_) (tailAt (by kernel_rfl)) hInv (by decide) rfl (by kernel_rfl) (by kernel_rfl) (by kernel_rfl) (fun _ _ _ h => h) (by rfl) (by assumption) ?_ (fun hInv2 => ?_)
        rotate_left
        · (intro w hSw; (try dsimp only at hSw); (try go_split_ands); go_simp <;> with_reducible rfl)
        clear hInv
        have hInv := hInv2
        clear hInv2
        try simp only [Act.put, List.setIfInBounds_toArray, List.set_cons_zero, List.set_cons_succ] at hInv ⊢
        refine takeS 13 (v := ?_) (tailAt (by kernel_rfl)) hInv (by decide) rfl (by kernel_rfl) (by kernel_rfl) (by kernel_rfl) (fun _ _ _ h => h) (by rfl) (by assumption) ?_ (fun hInv2 => ?_)
        rotate_left
        · (intro w hSw; (try dsimp only at hSw); (try go_split_ands); go_simp <;> with_reducible rfl)
        clear hInv
        have hInv := hInv2
        clear hInv2
        try simp only [Act.put, List.setIfInBounds_toArray, List.set_cons_zero, List.set_cons_succ] at hInv ⊢
        refine takeS 14 (v := ?_) (tailAt (by kernel_rfl)) hInv (by decide) rfl (by kernel_rfl) (by kernel_rfl) (by kernel_rfl) (fun _ _ _ h => h) (by rfl) (by assumption) ?_ (fun hInv2 => ?_)
        rotate_left
        · (intro w hSw; (try dsimp only at hSw); (try go_split_ands); go_simp <;> with_reducible rfl)
        clear hInv
        have hInv := hInv2
        clear hInv2
        try simp only [Act.put, List.setIfInBounds_toArray, List.set_cons_zero, List.set_cons_succ] at hInv ⊢
        refine takeS 15 (v := ?_) (tailAt (by kernel_rfl)) hInv (by decide) rfl (by kernel_rfl) (by kernel_rfl) (by kernel_rfl) (fun _ _ _ h => h) (by rfl) (by assumption) ?_ (fun hInv2 => ?_)
        rotate_left
        · (intro w hSw; (try dsimp only at hSw); (try go_split_ands); go_simp <;> with_reducible rfl)
        clear hInv
        have hInv := hInv2
        clear hInv2
        try simp only [Act.put, List.setIfInBounds_toArray, List.set_cons_zero, List.set_cons_succ] at hInv ⊢
        refine takeS 16 (v := ?_) (tailAt (by kernel_rfl)) hInv (by decide) rfl (by kernel_rfl) (by kernel_rfl) (by kernel_rfl) (fun _ _ _ h => h) (by rfl) (by assumption) ?_ (fun hInv2 => ?_)
        rotate_left
        · (intro w hSw; (try dsimp only at hSw); (try go_split_ands); go_simp <;> with_reducible rfl)
        clear hInv
        have hInv := hInv2
        clear hInv2
        try simp only [Act.put, List.setIfInBounds_toArray, List.set_cons_zero, List.set_cons_succ] at hInv ⊢
        refine takeS 17 (v := ?_) (tailAt (by kernel_rfl)) hInv (by decide) rfl (by kernel_rfl) (by kernel_rfl) (by kernel_rfl) (fun _ _ _ h => h) (by rfl) (by assumption) ?_ (fun hInv2 => ?_)
        rotate_left
        · (intro w hSw; (try dsimp only at hSw); (try go_split_ands); go_simp <;> with_reducible rfl)
        clear hInv
        have hInv := hInv2
        clear hInv2
        try simp only [Act.put, List.setIfInBounds_toArray, List.set_cons_zero, List.set_cons_succ] at hInv ⊢
        refine takeS 18 (v := ?_) (tailAt (by kernel_rfl)) hInv (by decide) rfl (by kernel_rfl) (by kernel_rfl) (by kernel_rfl) (fun _ _ _ h => h) (by rfl) (by assumption) ?_ (fun hInv2 => ?_)
        rotate_left
        · (intro w hSw; (try dsimp only at hSw); (try go_split_ands); go_simp <;> with_reducible rfl)
        clear hInv
        have hInv := hInv2
        clear hInv2
        try simp only [Act.put, List.setIfInBounds_toArray, List.set_cons_zero, List.set_cons_succ] at hInv ⊢
        refine takeS 19 (v := ?_) (tailAt (by kernel_rfl)) hInv (by decide) rfl (by kernel_rfl) (by kernel_rfl) (by kernel_rfl) (fun _ _ _ h => h) (by rfl) (by assumption) ?_ (fun hInv2 => ?_)
        rotate_left
        · (intro w hSw; (try dsimp only at hSw); (try go_split_ands); go_simp <;> with_reducible rfl)
        clear hInv
        have hInv := hInv2
        clear hInv2
        try simp only [Act.put, List.setIfInBounds_toArray, List.set_cons_zero, List.set_cons_succ] at hInv ⊢
        refine oneS 20 hInv (by decide) rfl (by kernel_rfl) (fun K hK => ?_)
        go_simp
        have hb := (Below.refl W.drew.heap.size W.drew).alloc (Nat.le_refl _) (.cells #[.int .u64 (wd : Nat), .int .u64 (y : Nat)] (33 : Nat))
        refine hK.out _ _ ?_ (fun hHeld2 hInv2 => ?_)
        · (try dsimp only)
          (first | assumption | (exact ⟨b0, b1, b2, (Below.refl _ _).drew⟩) | ((try go_split_ands); exact ⟨cellK (by assumption) hb, cellK (by assumption) hb, cellK (by assumption) hb, Below.trans (by assumption) (hb.mono (Below.size (by assumption)))⟩))
        clear hK K hHeld hInv
        have hHeld := hHeld2
        have hInv := hInv2
        clear hHeld2 hInv2
        try simp only [Act.put, List.setIfInBounds_toArray, List.set_cons_zero, List.set_cons_succ] at hInv ⊢
        refine lastS 21 rfl (by decide) (by kernel_rfl) (fun K hK => ?_)
        obtain ⟨_, _, _, hbL⟩ := id hHeld
        have hB8 := hBW.trans (hbL.mono hBW.size)
        obtain ⟨v', w4, hrun, ho, hb4⟩ := appW (hownW.keep hbL) (KL.two W.drew wd y (33 : Nat)) hB8.size (by omega) (by simp)
        rw [hs1.out.symm] at ho
        obtain ⟨J2, hJ2⟩ : ∃ J2, J2 = encW (l.take (k + 1)) := ⟨_, rfl⟩
        rw [← hJ2] at ho
        replace hJ2 := Lib.hid hJ2
        have hBN := hB8.trans hb4
        clear hHeld hb4 hbL hs1 hownW hBW
        rw [if_pos (by rfl)]
        refine wp_append_run _ _ _ _ rfl _ _ _ rfl rfl hrun ?_
        refine hK.out _ _ ?_
        clear hK K
        try simp only [Act.put, List.setIfInBounds_toArray, List.set_cons_zero, List.set_cons_succ]
        refine lastS 22 rfl (by decide) (by kernel_rfl) (fun K hK => ?_)
        go_simp
        refine hK.out _ _ ?_
        clear hK K
        try simp only [Act.put, List.setIfInBounds_toArray, List.set_cons_zero, List.set_cons_succ]
        refine wpAnyS_done (by kernel_rfl) ?_ _
        clear hInv hrun hB8
        go_wp2_with fail
        go_roundw
        case rel => exact ⟨k + 1, _, by omega, by go_num, hJ2, hF2, ho, hBN⟩
        case measure => simp [intOf]; omega
    · have hkn : k = n := by omega
      obtain rfl := hkn
      exact absurd (hX.out (fun j hj => hF.out j (by have := hn.out; omega))) id
end Go.Proofs.Ytibhahbimoiaaaa
