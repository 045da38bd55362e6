/-
  The words of operations: the code's Encode and the document's.
-/
import Derived.Test.YtibhahbimoiaaaaRd5
set_option linter.unusedVariables false
set_option linter.unusedSimpArgs false
namespace Go.Proofs.Ytibhahbimoiaaaa
open Go.RowKit Go.ChangeShapes Go.WideShapes Go.Deep

theorem KL.sl {w : World} {v : Value} {l : List Nat} (h : KL .u64 w v l) : SL w v l := by
  obtain ⟨A, cap, hv, h⟩ := h
  by_cases h0 : 0 < l.length
  · obtain ⟨g, off, rfl, hg, hc, hi⟩ := h h0
    exact .inr ⟨g, off, cap, hv, hg, hc, hi⟩
  · have : l = [] := List.eq_nil_of_length_eq_zero (by omega)
    subst this
    exact .inl ⟨rfl, A, cap, hv⟩
theorem SL.kl {w : World} {v : Value} {l : List Nat} (h : SL w v l) : KL .u64 w v l := by
  rcases h with ⟨rfl, A, cap, hv⟩ | ⟨g, off, cap, hv, hg, hc, hi⟩
  · exact ⟨A, cap, hv, fun h => by simp at h⟩
  · exact ⟨_, cap, hv, fun _ => ⟨g, off, rfl, hg, hc, hi⟩⟩
theorem wp_append_run {P : Program} {w w' : World} {o : Oper} {a : Act} {K : Act → World → Prop} {Q : Exit → Act → World → Prop} (s x : Operand) (t u : TypeId)
    (hop : o.op = Op.call { callee := Callee.builtin Builtin.append, args := #[s, x], argTypes := #[t, u] }) (vs vx v : Value) (hs : a.eval s = vs) (hx : a.eval x = vx)
    (hrun : (Builtin.append_ #[t, u] o.type #[vs, vx]).run P w = .ok v w') (h : K (a.put o.dst v) w') : Oper.wp P o a w K Q := by
  unfold Oper.wp
  simp [execOp, hop, resolve, invoke, builtin, hs, hx, hrun, Result.andThen]
  exact h

def wN (o : Ox) : Nat := (wordOp o).toNat
def encW (l : List Ox) : List Nat := l.flatMap fun o => [wN o, o.2.2]
def encS (l : List Ox) : List Nat := encW l ++ [moreN 0 (encW l)]
theorem wN_eq {o : Ox} (h : wrongB o = false) : wordOp o = ((wN o : Nat) : Int) := by
  have := wrongB_f h
  unfold wN wordOp
  omega
theorem wN_lt {o : Ox} (h : wrongB o = false) : wN o < 262144 := by
  have := wrongB_f h
  unfold wN wordOp
  omega
theorem encW_len (l : List Ox) : (encW l).length = 2 * l.length := by
  induction l with
  | nil => rfl
  | cons o l ih => simp only [encW, List.flatMap_cons, List.length_append, List.length_cons, List.length_nil] at *; omega
theorem encW_take (l : List Ox) (k : Nat) (h : k < l.length) : encW (l.take (k + 1)) = encW (l.take k) ++ [wN (l.getD k default), (l.getD k default).2.2] := by
  unfold encW
  rw [List.take_succ_eq_append_getElem h, List.flatMap_append, List.getD_eq_getElem?_getD, List.getElem?_eq_getElem h]
  simp
theorem encW_WL {l : List Ox} (h : ∀ o ∈ l, wrongB o = false) (hv : OVs l) : WL (encW l) := by
  intro x hx
  obtain ⟨o, ho, hx⟩ := List.mem_flatMap.1 hx
  simp only [List.mem_cons, List.not_mem_nil, or_false] at hx
  rcases hx with rfl | rfl
  · have := wN_lt (h o ho); omega
  · exact hv o ho
theorem KL.two (w : World) (a b : Nat) (t : TypeId) : KL .u64 (w.alloc (.cells #[.int .u64 (a : Nat), .int .u64 (b : Nat)] t)) (.slice (some ⟨w.heap.size, 0, none⟩) 2 2) [a, b] := by
  refine ⟨_, 2, rfl, fun _ => ⟨w.heap.size, 0, rfl, by simp, by simp, fun i hi => ?_⟩⟩
  match i, hi with
  | 0, _ => simp [go_sem]
  | 1, _ => simp [go_sem]
  | i + 2, hi => simp at hi; omega
theorem KL.one (w : World) (a : Nat) (t : TypeId) : KL .u64 (w.alloc (.cells #[.int .u64 (a : Nat)] t)) (.slice (some ⟨w.heap.size, 0, none⟩) 1 1) [a] := by
  refine ⟨_, 1, rfl, fun _ => ⟨w.heap.size, 0, rfl, by simp, by simp, fun i hi => ?_⟩⟩
  match i, hi with
  | 0, _ => simp [go_sem]
  | i + 1, hi => simp at hi
theorem rightB_any {l : List Ox} {k : Nat} (hk : k < l.length) (h : wrongB (l.getD k default) = true) : rightB l = false := by
  unfold rightB
  have : l.any wrongB = true := by
    rw [List.any_eq_true]
    refine ⟨l.getD k default, ?_, h⟩
    rw [List.getD_eq_getElem?_getD, List.getElem?_eq_getElem hk]
    exact List.getElem_mem _
  rw [this]; simp
theorem rightB_all {l : List Ox} (hk : l.length ≤ 19) (h : ∀ j, j < l.length → wrongB (l.getD j default) = false) : rightB l = true := by
  unfold rightB
  have : l.any wrongB = false := by
    rw [List.any_eq_false]
    intro x hx
    obtain ⟨i, hi, rfl⟩ := List.mem_iff_getElem.1 hx
    have := h i hi
    rw [List.getD_eq_getElem?_getD, List.getElem?_eq_getElem hi] at this
    simp at this; simp [this]
  rw [this]; simp [hk]

set_option maxHeartbeats 400000 in
theorem enc_full (v : Value) (l : List Ox) (w : World) (hv : OPL w v l) (h : 19 < l.length) :
    Calls Try.prog 15 #[v] w fun e w' => e = .returned (.tuple #[.slice none 0 0, .int .i64 3]) ∧ Below w.heap.size w w' := by
  obtain ⟨A, cap, rfl, _⟩ := hv.form rfl
  have h' : (19 : Int) < (l.length : Int) := by omega
  clear hv
  go_enter Try.func15, Try.ntmps15
  go_wp2_with fail
  go_ret2
  exact ⟨rfl, Below.refl _ _⟩

set_option maxHeartbeats 400000 in
theorem refEnc_full (v : Value) (l : List Ox) (w : World) (hv : OPL w v l) (h : 19 < l.length) :
    Calls Try.prog 16 #[v] w fun e w' => e = .returned (.tuple #[.slice none 0 0, .int .i64 3]) ∧ Below w.heap.size w w' := by
  obtain ⟨A, cap, rfl, _⟩ := hv.form rfl
  have h' : (19 : Int) < (l.length : Int) := by omega
  clear hv
  go_enter Try.func16, Try.ntmps16
  go_wp2_with fail
  go_ret2
  exact ⟨rfl, Below.refl _ _⟩

set_option maxHeartbeats 400000 in
theorem enc_arg (v : Value) (l : List Ox) (w : World) (hv : OPL w v l) (h : l.length ≤ 19) (hr : rightB l = false) :
    Calls Try.prog 15 #[v] w fun e w' => e = .returned (.tuple #[.slice none 0 0, .int .i64 1]) ∧ Below w.heap.size w w' := by
  have hR := right_any v l w (by omega) hv
  rw [hr] at hR
  replace hR := Lib.hid hR
  obtain ⟨A, cap, rfl, _⟩ := hv.form rfl
  have h' : (l.length : Int) ≤ 19 := by omega
  clear hv hr
  go_enter Try.func15, Try.ntmps15
  go_wp2_with fail
  refine hR.out.mono ?_
  rintro e w2 ⟨rfl, hb⟩
  go_wp2_with fail
  go_ret2
  exact ⟨rfl, hb⟩
set_option maxRecDepth 10000 in
set_option maxHeartbeats 2000000 in
theorem enc_ok (v : Value) (l : List Ox) (w : World) (hv : OPL w v l) (ho : OVs l) (hr : rightB l = true) :
    Calls Try.prog 15 #[v] w fun e w' => ∃ v', e = .returned (.tuple #[v', .int .i64 0]) ∧ SL w' v' (encS l) ∧ Below w.heap.size w w' := by
  obtain ⟨hl19, hall⟩ := rightB_t hr
  have hR := right_any v l w (by omega) hv
  rw [hr] at hR
  replace hR := Lib.hid hR
  obtain ⟨n, hn⟩ : ∃ n, l.length = n := ⟨_, rfl⟩
  obtain ⟨A, cap, rfl, hC⟩ := hv.form hn
  obtain ⟨i0, hi, hz0, hz1, hz2⟩ := info_parts infoU64
  have hS := Lib.hid (fun k (hk : k < n) => show encW (l.take (k + 1)) = encW (l.take k) ++ [wN (l.getD k default), (l.getD k default).2.2] from encW_take l k (by omega))
  have hE := Lib.hid (show encW (l.take n) = encW l from by rw [List.take_of_length_le (by omega)])
  have hZ := Lib.hid (show encW (l.take 0) = [] from by simp [encW])
  have hLn := Lib.hid (fun k (hk : k ≤ n) => show (encW (l.take k)).length = 2 * k from by rw [encW_len, List.length_take]; omega)
  have hW := Lib.hid (fun k (hk : k < n) => show wrongB (l.getD k default) = false ∧ (l.getD k default).2.2 < 18446744073709551616 from ⟨hall _ (by rw [List.getD_eq_getElem?_getD, List.getElem?_eq_getElem (by omega)]; exact List.getElem_mem _), ho.at k (by omega)⟩)
  have hSe := Lib.hid (fun v' w1 (h : OwnU w1 w.heap.size v' (encW l)) => seal_any v' (encW l) w1 (encW_WL hall ho) (by rw [encW_len]; omega) h.kl.sl)
  have hEs := Lib.hid (show encW l ++ [moreN 0 (encW l)] = encS l from rfl)
  replace hC := Lib.hid hC
  have hn9 : n ≤ 19 := by omega
  have h' : (n : Int) ≤ 19 := by omega
  replace hn := Lib.hid hn
  clear hv hr hall ho hl19
  have hm1 := Lib.hid (show (2 : Int) * (n : Int) = ((2 * n : Nat) : Int) from by omega)
  go_enter Try.func15, Try.ntmps15
  go_wp2_with fail
  refine hR.out.mono ?_
  rintro e w1 ⟨rfl, hb1⟩
  go_wp2_with (at_make; refine wpList_make_own _ rfl _ _ 24 rfl w.heap.size 33 i0 (.int .u64 0) 1 Try.underlying24 hi hz0 hz1 .i64 .i64 _ (2 * n) rfl rfl hm1.out (by rw [hz2]; omega) (by unfold maxLen; omega) hb1.size ?_; intro w2 hown hgr)
  have hB2 : Below w.heap.size w w2 := hb1.grown hgr hb1.size (by simp)
  have hO2 : OwnU w2 w.heap.size (.slice (some ⟨w1.heap.size, 0, none⟩) 0 (2 * n)) [] := hown
  clear hown hgr hb1 hR
  go_wp2_with fail
  go_loopw [19, 4] (fun i wd wr => ∃ (k : Nat) (J : List Nat), k ≤ n ∧ i = .int .i64 k ∧ Hid (J = encW (l.take k)) ∧ OwnU wr w.heap.size wd J ∧ Below w.heap.size w wr) (fun i _ _ => n + 1 - (intOf i).toNat)
  case atStart => exact ⟨0, [], Nat.zero_le _, rfl, Lib.hid hZ.out.symm, hO2, hB2⟩
  case round =>
    clear hO2 hB2
    obtain ⟨k, J, hk, rfl, hJ, hown, hB⟩ := hrel
    by_cases hlt : k < n
    · obtain ⟨g, off, rfl, hcap, hgw, hg, c0, c1, c2⟩ := hC.out wr k hB hlt
      have hlt' : (k : Int) < (n : Int) := by omega
      have hs1 := hS.out k hlt
      have hJl : J.length = 2 * k := by rw [hJ.out]; exact hLn.out k hk
      obtain ⟨hw1, hov⟩ := hW.out k hlt
      rw [← hJ.out] at hs1
      generalize l.getD k default = o at *
      have hFi := fun w => first_any o w hw1
      rw [wN_eq hw1] at hFi
      generalize wN o = wd at *
      obtain ⟨x, a, y⟩ := o
      unfold opV at hFi
      simp only [] at c0 c1 c2 hov hs1 hFi
      replace hFi := Lib.hid hFi
      replace hs1 := Lib.hid hs1
      clear hw1
      go_wp2_with fail
      obtain ⟨W, hW⟩ : ∃ W : World, W = wr.alloc (.cells #[.int .i64 x, .int .i64 a, .int .u64 (y : Nat)] (38 : Nat)) := ⟨_, rfl⟩
      have hbA : Below wr.heap.size wr W := by rw [hW]; exact (Below.refl _ _).alloc (Nat.le_refl _) _
      have hkW : C3 W wr.heap.size (.int .i64 x) (.int .i64 a) (.int .u64 (y : Nat)) := by rw [hW]; exact C3.new _ _ _ _ _
      obtain ⟨b0, b1, b2⟩ := hkW
      rw [← hW]
      clear hW
      have hownW := hown.keep hbA
      have hBW := hB.trans (hbA.mono hB.size)
      clear hown hB hbA
      refine wp_region_tail (S := (fun w' => w'.cell? ⟨wr.heap.size, 0, none⟩ = some (.int .i64 x) ∧ w'.cell? ⟨wr.heap.size, 1, none⟩ = some (.int .i64 a) ∧ w'.cell? ⟨wr.heap.size, 2, none⟩ = some (.int .u64 (y : Nat)) ∧ Below W.heap.size W w')) (n := 6) (by kernel_rfl) ?_ (fun hHeld hInv => ?_) (by decide)
      · (try dsimp only)
        (first | assumption | (exact ⟨b0, b1, b2, (Below.refl _ _).drew⟩) | ((try go_split_ands); exact ⟨cellK (by assumption) hb, cellK (by assumption) hb, cellK (by assumption) hb, Below.trans (by assumption) (hb.mono (Below.size (by assumption)))⟩))
      refine takeS 0 (v := ?_) (tailAt (by kernel_rfl)) hInv (by decide) rfl (by kernel_rfl) (by kernel_rfl) (by kernel_rfl) (fun _ _ _ h => h) (by rfl) (by assumption) ?_ (fun hInv2 => ?_)
      rotate_left
      · (intro w hSw; (try dsimp only at hSw); (try go_split_ands); go_simp <;> with_reducible rfl)
      clear hInv
      have hInv := hInv2
      clear hInv2
      try simp only [Act.put, List.setIfInBounds_toArray, List.set_cons_zero, List.set_cons_succ] at hInv ⊢
      refine takeS 1 (v := ?_) (tailAt (by kernel_rfl)) hInv (by decide) rfl (by kernel_rfl) (by kernel_rfl) (by kernel_rfl) (fun _ _ _ h => h) (by rfl) (by assumption) ?_ (fun hInv2 => ?_)
      rotate_left
      · (intro w hSw; (try dsimp only at hSw); (try go_split_ands); go_simp <;> with_reducible rfl)
      clear hInv
      have hInv := hInv2
      clear hInv2
      try simp only [Act.put, List.setIfInBounds_toArray, List.set_cons_zero, List.set_cons_succ] at hInv ⊢
      refine takeS 3 (v := ?_) (tailAt (by kernel_rfl)) hInv (by decide) rfl (by kernel_rfl) (by kernel_rfl) (by kernel_rfl) (fun _ _ _ h => h) (by rfl) (by assumption) ?_ (fun hInv2 => ?_)
      rotate_left
      · (intro w hSw; (try dsimp only at hSw); (try go_split_ands); go_simp <;> with_reducible rfl)
      clear hInv
      have hInv := hInv2
      clear hInv2
      try simp only [Act.put, List.setIfInBounds_toArray, List.set_cons_zero, List.set_cons_succ] at hInv ⊢
      refine takeS 4 (v := ?_) (tailAt (by kernel_rfl)) hInv (by decide) rfl (by kernel_rfl) (by kernel_rfl) (by kernel_rfl) (fun _ _ _ h => h) (by rfl) (by assumption) ?_ (fun hInv2 => ?_)
      rotate_left
      · (intro w hSw; (try dsimp only at hSw); (try go_split_ands); go_simp <;> with_reducible rfl)
      clear hInv
      have hInv := hInv2
      clear hInv2
      try simp only [Act.put, List.setIfInBounds_toArray, List.set_cons_zero, List.set_cons_succ] at hInv ⊢
      refine oneS 2 hInv (by decide) rfl (by kernel_rfl) (fun K hK => ?_)
      go_simp
      ((with_reducible refine (hFi.out _).mono ?_); rintro e w8 ⟨rfl, hb⟩)
      refine hK.out _ _ ?_ (fun hHeld2 hInv2 => ?_)
      · (try dsimp only)
        (first | assumption | (exact ⟨b0, b1, b2, (Below.refl _ _).drew⟩) | ((try go_split_ands); exact ⟨cellK (by assumption) hb, cellK (by assumption) hb, cellK (by assumption) hb, Below.trans (by assumption) (hb.mono (Below.size (by assumption)))⟩))
      clear hK K hHeld hInv
      have hHeld := hHeld2
      have hInv := hInv2
      clear hHeld2 hInv2
      try simp only [Act.put, List.setIfInBounds_toArray, List.set_cons_zero, List.set_cons_succ] at hInv ⊢
      refine oneS 5 hInv (by decide) rfl (by kernel_rfl) (fun K hK => ?_)
      go_simp
      have hb := (Below.refl w8.heap.size w8).alloc (Nat.le_refl _) (.cells #[.int .u64 (wd : Nat), .int .u64 (y : Nat)] (33 : Nat))
      refine hK.out _ _ ?_ (fun hHeld2 hInv2 => ?_)
      · (try dsimp only)
        (first | assumption | (exact ⟨b0, b1, b2, (Below.refl _ _).drew⟩) | ((try go_split_ands); exact ⟨cellK (by assumption) hb, cellK (by assumption) hb, cellK (by assumption) hb, Below.trans (by assumption) (hb.mono (Below.size (by assumption)))⟩))
      clear hK K hHeld hInv
      have hHeld := hHeld2
      have hInv := hInv2
      clear hHeld2 hInv2
      try simp only [Act.put, List.setIfInBounds_toArray, List.set_cons_zero, List.set_cons_succ] at hInv ⊢
      refine lastS 6 rfl (by decide) (by kernel_rfl) (fun K hK => ?_)
      obtain ⟨_, _, _, hbL⟩ := id hHeld
      have hB8 := hBW.trans (hbL.mono hBW.size)
      obtain ⟨v', w4, hrun, ho, hb4⟩ := appW (hownW.keep hbL) (KL.two w8 wd y (33 : Nat)) hB8.size (by omega) (by simp)
      rw [hs1.out.symm] at ho
      obtain ⟨J2, hJ2⟩ : ∃ J2, J2 = encW (l.take (k + 1)) := ⟨_, rfl⟩
      rw [← hJ2] at ho
      replace hJ2 := Lib.hid hJ2
      have hBN := hB8.trans hb4
      clear hHeld hb4 hbL hs1 hownW hBW
      rw [if_pos (by rfl)]
      refine wp_append_run _ _ _ _ rfl _ _ _ rfl rfl hrun ?_
      refine hK.out _ _ ?_
      clear hK K
      try simp only [Act.put, List.setIfInBounds_toArray, List.set_cons_zero, List.set_cons_succ]
      refine lastS 7 rfl (by decide) (by kernel_rfl) (fun K hK => ?_)
      go_simp
      refine hK.out _ _ ?_
      clear hK K
      try simp only [Act.put, List.setIfInBounds_toArray, List.set_cons_zero, List.set_cons_succ]
      refine wpAnyS_done (by kernel_rfl) ?_ _
      clear hInv hrun hB8
      go_wp2_with fail
      go_roundw
      case rel => exact ⟨k + 1, _, by omega, by go_num, hJ2, ho, hBN⟩
      case measure => simp [intOf]; omega
    · have hR : J = encW l := by
        have hkn : k = n := by omega
        rw [hJ.out, hkn, hE.out]
      subst hR
      obtain rfl : k = n := by omega
      clear hJ
      go_wp2_with fail
      refine (hSe.out _ _ hown).mono ?_
      rintro e w9 ⟨v9, rfl, hs9, hb9⟩
      rw [hEs.out] at hs9
      have hB9 := hB.trans (hb9.mono hB.size)
      go_wp2_with fail
      go_ret2
      exact ⟨_, rfl, hs9, hB9⟩
end Go.Proofs.Ytibhahbimoiaaaa
