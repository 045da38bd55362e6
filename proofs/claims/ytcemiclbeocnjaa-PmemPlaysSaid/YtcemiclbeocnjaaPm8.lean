/-
  Layer 3 (pmem): the code's Crash.
-/
import Derived.Test.YtcemiclbeocnjaaPm6
import Derived.Test.YtcemiclbeocnjaaPm7
set_option linter.unusedVariables false
set_option linter.unusedSimpArgs false
namespace Go.Proofs.Ytcemiclbeocnjaa
open Go.RowKit Go.ChangeShapes Go.WideShapes Go.Deep Go.Maps

def crStep (s : Dv) (keep : List Nat) (D : List Int) (L : List Nat) (j : Nat) : List Nat :=
  if keep.getD j 0 % 3 = 1 then (match s.f (D.getD j 0) with | some v => L.set (D.getD j 0).toNat v | none => L)
  else if keep.getD j 0 % 3 = 2 then L.set (D.getD j 0).toNat ((s.c (D.getD j 0)).getD 0) else L
def crL (s : Dv) (keep : List Nat) (D : List Int) (k : Nat) : List Nat := (List.range k).foldl (crStep s keep D) s.L
theorem crL_succ (s : Dv) (keep : List Nat) (D : List Int) (k : Nat) : crL s keep D (k + 1) = crStep s keep D (crL s keep D k) k := by
  unfold crL
  rw [List.range_succ, List.foldl_append]; rfl
theorem crL_len (s : Dv) (keep : List Nat) (D : List Int) (k : Nat) : (crL s keep D k).length = s.L.length := by
  induction k with
  | zero => rfl
  | succ k ih =>
    rw [crL_succ]
    unfold crStep
    split
    · split
      · rw [List.length_set, ih]
      · exact ih
    · split
      · rw [List.length_set, ih]
      · exact ih
theorem crL_far (s : Dv) (keep : List Nat) (D : List Int) (k j : Nat) (h : keep.length ≤ k) : crL s keep D (k + j) = crL s keep D k := by
  induction j with
  | zero => rfl
  | succ j ih =>
    rw [← Nat.add_assoc, crL_succ, ih]
    unfold crStep
    rw [show keep.getD (k + j) 0 = 0 from by rw [List.getD_eq_getElem?_getD, List.getElem?_eq_none (by omega)]; rfl]
    rfl
def crashD (s : Dv) (keep : List Nat) : Dv := { s with L := crL s keep (keysL s.L.length s.c) (keysL s.L.length s.c).length, c := fun _ => none, f := fun _ => none, dead := false, fuse := 0 }
theorem crash_tail {F : Nat → Prop} {w : World} {B C M : Nat} {v0 : Value} {s : Dv} (h : DvR w B C M v0 F s) :
    ∃ w3 w4, (Builtin.clear_ #[92] 0 #[.map (some C)]).run Try.prog w = .ok (.tuple #[]) w3 ∧ (Builtin.clear_ #[92] 0 #[.map (some M)]).run Try.prog w3 = .ok (.tuple #[]) w4 ∧
      w.cell? ⟨B, 1, none⟩ = some (.map (some C)) ∧ w3.cell? ⟨B, 2, none⟩ = some (.map (some M)) ∧ w4.cell? ⟨B, 3, none⟩ = some (.bool s.dead) ∧ w4.cell? ⟨B, 4, none⟩ = some (.int .i64 s.fuse) ∧ w4.frozen? ⟨B, 3, none⟩ = false ∧ w4.frozen? ⟨B, 4, none⟩ = false ∧
      Hid (DvR ((w4.setCell ⟨B, 3, none⟩ (.bool false)).setCell ⟨B, 4, none⟩ (.int .i64 0)) B C M v0 F { s with c := fun _ => none, f := fun _ => none, dead := false, fuse := 0 }) ∧ Hid (Chg F w ((w4.setCell ⟨B, 3, none⟩ (.bool false)).setCell ⟨B, 4, none⟩ (.int .i64 0))) := by
  obtain ⟨⟨c0, c1, c2, c3, c4, c5⟩, fz⟩ := h.cells
  obtain ⟨w3, hr1, hm3, hg3⟩ := h.cach.clear 0
  have h3 := h.cTo hg3 (hm3.mono (Nat.zero_le s.n)) (Nat.le_refl _)
  obtain ⟨⟨_, _, d2, _⟩, _⟩ := h3.cells
  obtain ⟨w4, hr2, hm4, hg4⟩ := h3.flus.clear 0
  have h4 := h3.fTo hg4 (hm4.mono (Nat.zero_le s.n)) (Nat.le_refl _)
  obtain ⟨⟨_, _, _, e3, e4, _⟩, fe⟩ := h4.cells
  have h5 := (h4.put (o := 3) (u := .bool false) (s' := { s with c := fun _ => none, f := fun _ => none, dead := false }) rfl rfl rfl rfl rfl).put (o := 4) (u := .int .i64 0) (s' := { s with c := fun _ => none, f := fun _ => none, dead := false, fuse := 0 }) rfl rfl rfl rfl rfl
  have hc := ((((Chg.of_grown (S := F) hg3 (fun k e => by cases e; exact .inl h.fC)).trans (Chg.of_grown (S := F) hg4 (fun k e => by cases e; exact .inl h.fM)) (fun j q => .inl q)).trans (Chg.setCell w4 B 3 (.bool false) h.fB) (fun j q => .inl q)).trans (Chg.setCell _ B 4 (.int .i64 0) h.fB) (fun j q => .inl q))
  exact ⟨w3, w4, hr1, hr2, c1, d2, e3, e4, fe 3, fe 4, h5, hc⟩

set_option maxRecDepth 10000 in
set_option maxHeartbeats 4000000 in
theorem dCrash (B : Nat) (F : Nat → Prop) (s : Dv) (vk : Value) (keep : List Nat) (w : World) (h : DvAt w B F s) (hg : GoodD s) (hbl : BL keep) (hkl : keep.length ≤ 1000) (hK : ∀ w', Chg F w w' → KL .u8 w' vk keep) :
    Calls Try.prog 51 #[.pointer (some ⟨B, 0, none⟩), vk] w fun e w' => e = .returned (.tuple #[]) ∧ DvAt w' B F (crashD s keep) ∧ Chg F w w' := by
  have hDr := dDirty B F s w h hg
  have hKs := Lib.hid (keysL_keys s.L.length s.c hg.cin)
  have hKl := keysL_len s.L.length s.c
  have hlen := hg.len
  have hsn := Lib.hid hg.n
  have hcin := Lib.hid hg.cin
  obtain ⟨C, M, v0, hR⟩ := h
  have hFl := Lib.hid hR.lt
  obtain ⟨A, cap, rfl, hA⟩ := hR.last.form
  obtain ⟨g, rfl, _, hgl⟩ := hA hg.len0
  obtain ⟨Ak, capk, rfl, _⟩ := (hK w (Chg.refl _ _)).form rfl
  have hgF := Lib.hid (hR.f0 g rfl)
  replace hR := Lib.hid hR
  replace hK := Lib.hid hK
  obtain ⟨nk, hnk⟩ : ∃ nk, keep.length = nk := ⟨_, rfl⟩
  obtain ⟨N, hN⟩ : ∃ N, s.L.length = N := ⟨_, rfl⟩
  obtain ⟨D, hD⟩ : ∃ D, keysL s.L.length s.c = D := ⟨_, rfl⟩
  have hcr : crashD s keep = { s with L := crL s keep D D.length, c := fun _ => none, f := fun _ => none, dead := false, fuse := 0 } := by unfold crashD; rw [hD]
  rw [hcr, hnk]
  rw [hD] at hDr hKs hKl
  rw [hN] at hR hKl hlen hcin
  obtain ⟨m, hm⟩ : ∃ m, D.length = m := ⟨_, rfl⟩
  rw [hm] at hKl ⊢
  rw [hnk] at hkl
  replace hnk := Lib.hid hnk
  replace hm := Lib.hid hm
  replace hN := Lib.hid hN
  replace hbl := Lib.hid hbl
  clear hg hA hcr hD hgl
  go_enter Try.func51, Try.ntmps51
  go_wp2_with (go_at_call 20; refine hDr.mono ?_; rintro e w1 ⟨v, rfl, hO, hb⟩; obtain ⟨AD, capD, rfl, _⟩ := (hO.el iE_len).form hm.out; clear hDr)
  have hR1 := Lib.hid (hR.out.keep hb)
  have hc1 := Lib.hid (Chg.of_below F hb)
  have hb1 := Lib.hid hb
  replace hO := Lib.hid hO
  clear hR hb
  have hcrl := Lib.hid (fun k => crL_len s keep D k)
  go_loopw [11] (fun i wr => ∃ k : Nat, k ≤ m ∧ i = .int .i64 k ∧ Hid (DvR wr B C M (.slice (some ⟨g, 0, none⟩) N cap) F { s with L := crL s keep D k }) ∧ Hid (Chg F w wr) ∧ Hid (Chg F w1 wr)) (fun i _ => m + 1 - (intOf i).toNat)
  case atStart => exact ⟨0, Nat.zero_le _, rfl, hR1, hc1, Chg.refl _ _⟩
  case round =>
    clear hR1 hc1
    obtain ⟨k, hk, rfl, hRh, hc, hcD⟩ := hrel
    by_cases hlt : k < m
    · have hlt' : (k : Int) < (m : Int) := by omega
      by_cases hkk : k < nk
      · have hkk' : ¬ ((nk : Int) ≤ (k : Int)) := by omega
        -- the dirty word's place
        obtain ⟨x, hx⟩ : ∃ x, D.getD k 0 = x := ⟨_, rfl⟩
        have hxm : x ∈ D := by
          rw [← hx, List.getD_eq_getElem?_getD, List.getElem?_eq_getElem (by rw [hm.out]; exact hlt)]
          exact List.getElem_mem _
        obtain ⟨z, hz⟩ := (hKs.out.mem x).1 hxm
        obtain ⟨hx0, hxN⟩ := hcin.out x z hz
        have hOw := hO.out.chg hcD.out (fun q e qF => by have := hFl.out q qF; have := (hO.out.lt q e).1; omega)
        obtain ⟨gD, capD2, he, hbD, hgD, hcapD⟩ := hOw.form (by rw [hm.out]; omega)
        rw [hm.out] at he hcapD
        cases he
        have hcDc := hOw.cell iE_len hm.out hlt (j := 0) (by decide)
        have e0 : wr.cell? ⟨gD, k, none⟩ = some (.int .i64 x) := by
          have q := hcDc.1
          rw [Nat.mul_one, Nat.add_zero] at q
          rw [q, ← hx]; rfl
        obtain ⟨Ak2, capk2, he2, hCk⟩ := (hK.out wr hc.out).form hnk.out
        obtain ⟨gk, ok, hAk, hcapk, hgk, e1⟩ := hCk wr k (Below.refl _ _) hkk
        cases he2
        subst hAk
        have hbb := hbl.out.at k (by rw [hnk.out]; exact hkk)
        have hsucc := crL_succ s keep D k
        unfold crStep at hsucc
        rw [hx] at hsucc
        have hLl := hcrl.out k
        rw [hN.out] at hLl
        generalize crL s keep D k = L at *
        generalize keep.getD k 0 = b at *
        have hR := hRh.out
        obtain ⟨⟨c0, c1, c2, c3, c4, c5⟩, fz⟩ := hR.cells
        have hx64 : I64 x := by constructor <;> omega
        obtain ⟨i, rfl⟩ := Int.eq_ofNat_of_zero_le hx0
        have hi : i < N := by omega
        obtain ⟨x1, f1⟩ := hR.last.cell hLl hi
        replace hx := Lib.hid hx
        replace hK := Lib.hid hK.out
        have hwb : ((b : Nat) : Int) < 256 := by omega
        clear hCk hcDc hOw c3 c4 c5 fz hbD hgD hz hxm
        have hr3 : b % 3 = 0 ∨ b % 3 = 1 ∨ b % 3 = 2 := by omega
        rcases hr3 with hr | hr | hr
        · have hm3 : ((b : Nat) : Int) % 3 = 0 := by omega
          have hm4 : Int.tmod ((b : Nat) : Int) 3 = 0 := by rw [Int.tmod_eq_emod_of_nonneg (by omega)]; exact hm3
          rw [if_neg (by omega), if_neg (by omega)] at hsucc
          replace hsucc := Lib.hid hsucc
          replace hr := Lib.hid hr
          clear hR
          go_wp2_with fail
          go_roundw
          case rel => exact ⟨k + 1, by omega, by go_num, (by rw [hsucc.out]; exact hRh), hc, hcD⟩
          case measure => simp [intOf]; omega
        · have hm3 : ((b : Nat) : Int) % 3 = 1 := by omega
          have hm4 : Int.tmod ((b : Nat) : Int) 3 = 1 := by rw [Int.tmod_eq_emod_of_nonneg (by omega)]; exact hm3
          rw [if_pos hr] at hsucc
          have hlk := hR.flus.look hx64
          simp only [] at hlk
          replace hr := Lib.hid hr
          cases hfx : s.f (i : Int) with
          | none =>
            rw [hfx] at hsucc hlk
            simp only [Option.getD_none, Option.isSome_none] at hlk
            simp only [] at hsucc
            replace hsucc := Lib.hid hsucc
            clear hR
            go_wp2_with fail
            go_roundw
            case rel => exact ⟨k + 1, by omega, by go_num, (by rw [hsucc.out]; exact hRh), hc, hcD⟩
            case measure => simp [intOf]; omega
          | some v =>
            rw [hfx] at hsucc hlk
            simp only [Option.getD_some, Option.isSome_some] at hlk
            simp only [Int.toNat_natCast] at hsucc
            replace hsucc := Lib.hid hsucc
            have hR3 := Lib.hid (hR.lTo (x := v) hLl hi)
            have hcs := Lib.hid (Chg.setCell (S := F) wr g i (.int .u64 (v : Nat)) hgF.out)
            clear hR
            go_wp2_with fail
            go_roundw
            case rel => exact ⟨k + 1, by omega, by go_num, (by rw [hsucc.out]; exact hR3), hc.out.trans hcs.out (fun j q => .inl q), hcD.out.trans hcs.out (fun j q => .inl q)⟩
            case measure => simp [intOf]; omega
        · have hm3 : ((b : Nat) : Int) % 3 = 2 := by omega
          have hm4 : Int.tmod ((b : Nat) : Int) 3 = 2 := by rw [Int.tmod_eq_emod_of_nonneg (by omega)]; exact hm3
          rw [if_neg (by omega), if_pos hr] at hsucc
          replace hr := Lib.hid hr
          have hRd := hR.keep (Below.refl _ _).drew
          obtain ⟨⟨d0, d1, _⟩, _⟩ := hRd.cells
          have hlk := hRd.cach.look1 hx64
          simp only [] at hlk
          generalize (s.c (i : Int)).getD 0 = z at *
          simp only [Int.toNat_natCast] at hsucc
          replace hsucc := Lib.hid hsucc
          obtain ⟨x2, f2⟩ := hRd.last.cell hLl hi
          obtain ⟨y2, x2⟩ : ∃ y, wr.drew.cell? ⟨g, i, none⟩ = some y := ⟨_, x2⟩
          have hR3 := Lib.hid (hRd.lTo (x := z) hLl hi)
          have hcs := Lib.hid ((chg_drew F wr).trans (Chg.setCell (S := F) wr.drew g i (.int .u64 (z : Nat)) hgF.out) (fun j q => .inl q))
          have hi2 : (i : Int) < (N : Int) := by omega
          clear hR hRd
          go_wp2_with fail
          refine wp_region_tail (S := (fun w' => w' = wr.drew)) (n := 12) (by kernel_rfl) ?_ (fun hHeld hInv => ?_) (by decide)
          · (try dsimp only)
            all_goals rfl
          refine takeS 0 (v := ?_) (tailAt (by kernel_rfl)) hInv (by decide) rfl (by kernel_rfl) (by kernel_rfl) (by kernel_rfl) (fun _ _ _ h => h) (by rfl) (by assumption) ?_ (fun hInv2 => ?_)
          rotate_left
          · (intro w hSw; (try dsimp only at hSw); (subst hSw); go_simp <;> with_reducible rfl)
          clear hInv
          have hInv := hInv2
          clear hInv2
          try simp only [Act.put, List.setIfInBounds_toArray, List.set_cons_zero, List.set_cons_succ] at hInv ⊢
          refine takeS 1 (v := ?_) (tailAt (by kernel_rfl)) hInv (by decide) rfl (by kernel_rfl) (by kernel_rfl) (by kernel_rfl) (fun _ _ _ h => h) (by rfl) (by assumption) ?_ (fun hInv2 => ?_)
          rotate_left
          · (intro w hSw; (try dsimp only at hSw); (subst hSw); go_simp <;> with_reducible rfl)
          clear hInv
          have hInv := hInv2
          clear hInv2
          try simp only [Act.put, List.setIfInBounds_toArray, List.set_cons_zero, List.set_cons_succ] at hInv ⊢
          refine takeS 2 (v := ?_) (tailAt (by kernel_rfl)) hInv (by decide) rfl (by kernel_rfl) (by kernel_rfl) (by kernel_rfl) (fun _ _ _ h => h) (by rfl) (by assumption) ?_ (fun hInv2 => ?_)
          rotate_left
          · (intro w hSw; (try dsimp only at hSw); (subst hSw); go_simp <;> with_reducible rfl)
          clear hInv
          have hInv := hInv2
          clear hInv2
          try simp only [Act.put, List.setIfInBounds_toArray, List.set_cons_zero, List.set_cons_succ] at hInv ⊢
          refine takeS 3 (v := ?_) (tailAt (by kernel_rfl)) hInv (by decide) rfl (by kernel_rfl) (by kernel_rfl) (by kernel_rfl) (fun _ _ _ h => h) (by rfl) (by assumption) ?_ (fun hInv2 => ?_)
          rotate_left
          · (intro w hSw; (try dsimp only at hSw); (subst hSw); go_simp <;> with_reducible rfl)
          clear hInv
          have hInv := hInv2
          clear hInv2
          try simp only [Act.put, List.setIfInBounds_toArray, List.set_cons_zero, List.set_cons_succ] at hInv ⊢
          refine takeS 4 (v := ?_) (tailAt (by kernel_rfl)) hInv (by decide) rfl (by kernel_rfl) (by kernel_rfl) (by kernel_rfl) (fun _ _ _ h => h) (by rfl) (by assumption) ?_ (fun hInv2 => ?_)
          rotate_left
          · (intro w hSw; (try dsimp only at hSw); (subst hSw); go_simp <;> with_reducible rfl)
          clear hInv
          have hInv := hInv2
          clear hInv2
          try simp only [Act.put, List.setIfInBounds_toArray, List.set_cons_zero, List.set_cons_succ] at hInv ⊢
          refine takeS 5 (v := ?_) (tailAt (by kernel_rfl)) hInv (by decide) rfl (by kernel_rfl) (by kernel_rfl) (by kernel_rfl) (fun _ _ _ h => h) (by rfl) (by assumption) ?_ (fun hInv2 => ?_)
          rotate_left
          · (intro w hSw; (try dsimp only at hSw); (subst hSw); go_simp <;> with_reducible rfl)
          clear hInv
          have hInv := hInv2
          clear hInv2
          try simp only [Act.put, List.setIfInBounds_toArray, List.set_cons_zero, List.set_cons_succ] at hInv ⊢
          refine takeS 6 (v := ?_) (tailAt (by kernel_rfl)) hInv (by decide) rfl (by kernel_rfl) (by kernel_rfl) (by kernel_rfl) (fun _ _ _ h => h) (by rfl) (by assumption) ?_ (fun hInv2 => ?_)
          rotate_left
          · (intro w hSw; (try dsimp only at hSw); (subst hSw); go_simp <;> with_reducible rfl)
          clear hInv
          have hInv := hInv2
          clear hInv2
          try simp only [Act.put, List.setIfInBounds_toArray, List.set_cons_zero, List.set_cons_succ] at hInv ⊢
          refine takeS 7 (v := ?_) (tailAt (by kernel_rfl)) hInv (by decide) rfl (by kernel_rfl) (by kernel_rfl) (by kernel_rfl) (fun _ _ _ h => h) (by rfl) (by assumption) ?_ (fun hInv2 => ?_)
          rotate_left
          · (intro w hSw; (try dsimp only at hSw); (subst hSw); go_simp <;> with_reducible rfl)
          clear hInv
          have hInv := hInv2
          clear hInv2
          try simp only [Act.put, List.setIfInBounds_toArray, List.set_cons_zero, List.set_cons_succ] at hInv ⊢
          refine takeS 8 (v := ?_) (tailAt (by kernel_rfl)) hInv (by decide) rfl (by kernel_rfl) (by kernel_rfl) (by kernel_rfl) (fun _ _ _ h => h) (by rfl) (by assumption) ?_ (fun hInv2 => ?_)
          rotate_left
          · (intro w hSw; (try dsimp only at hSw); (subst hSw); go_simp <;> with_reducible rfl)
          clear hInv
          have hInv := hInv2
          clear hInv2
          try simp only [Act.put, List.setIfInBounds_toArray, List.set_cons_zero, List.set_cons_succ] at hInv ⊢
          refine takeS 9 (v := ?_) (tailAt (by kernel_rfl)) hInv (by decide) rfl (by kernel_rfl) (by kernel_rfl) (by kernel_rfl) (fun _ _ _ h => h) (by rfl) (by assumption) ?_ (fun hInv2 => ?_)
          rotate_left
          · (intro w hSw; (try dsimp only at hSw); (subst hSw); go_simp <;> with_reducible rfl)
          clear hInv
          have hInv := hInv2
          clear hInv2
          try simp only [Act.put, List.setIfInBounds_toArray, List.set_cons_zero, List.set_cons_succ] at hInv ⊢
          refine takeS 10 (v := ?_) (tailAt (by kernel_rfl)) hInv (by decide) rfl (by kernel_rfl) (by kernel_rfl) (by kernel_rfl) (fun _ _ _ h => h) (by rfl) (by assumption) ?_ (fun hInv2 => ?_)
          rotate_left
          · (intro w hSw; (try dsimp only at hSw); (subst hSw); go_simp <;> with_reducible rfl)
          clear hInv
          have hInv := hInv2
          clear hInv2
          try simp only [Act.put, List.setIfInBounds_toArray, List.set_cons_zero, List.set_cons_succ] at hInv ⊢
          refine takeS 11 (v := ?_) (tailAt (by kernel_rfl)) hInv (by decide) rfl (by kernel_rfl) (by kernel_rfl) (by kernel_rfl) (fun _ _ _ h => h) (by rfl) (by assumption) ?_ (fun hInv2 => ?_)
          rotate_left
          · (intro w hSw; (try dsimp only at hSw); (subst hSw); go_simp <;> with_reducible rfl)
          clear hInv
          have hInv := hInv2
          clear hInv2
          try simp only [Act.put, List.setIfInBounds_toArray, List.set_cons_zero, List.set_cons_succ] at hInv ⊢
          refine lastS 12 rfl (by decide) (by kernel_rfl) (fun K hK => ?_)
          go_simp
          refine hK.out _ _ ?_
          clear hK K
          refine wpAnyS_done (by kernel_rfl) ?_ _
          go_wp2_with fail
          go_roundw
          case rel => exact ⟨k + 1, by omega, by go_num, (by rw [hsucc.out]; exact hR3), hc.out.trans hcs.out (fun j q => .inl q), hcD.out.trans hcs.out (fun j q => .inl q)⟩
          case measure => simp [intOf]; omega
      · have hkk' : (nk : Int) ≤ (k : Int) := by omega
        have hfar := crL_far s keep D k (m - k) (by rw [hnk.out]; omega)
        rw [show k + (m - k) = m by omega] at hfar
        have hRe := hRh.out
        rw [← hfar] at hRe
        have hOw := hO.out.chg hcD.out (fun q e qF => by have := hFl.out q qF; have := (hO.out.lt q e).1; omega)
        obtain ⟨gD, capD2, he, hbD, hgD, hcapD⟩ := hOw.form (by rw [hm.out]; omega)
        rw [hm.out] at he hcapD
        cases he
        have hcDc := hOw.cell iE_len hm.out hlt (j := 0) (by decide)
        obtain ⟨x, e0⟩ : ∃ x, wr.cell? ⟨gD, k, none⟩ = some (.int .i64 x) := by
          have q := hcDc.1
          rw [Nat.mul_one, Nat.add_zero] at q
          exact ⟨_, q⟩
        clear hfar hcDc hOw hbD hgD
        obtain ⟨w3, w4, hrun1, hrun2, d1, d2, d3, d4, f3, f4, hRf, hcf⟩ := crash_tail hRe
        replace hRe := Lib.hid hRe
        go_wp2_with fail
        go_end0
        exact ⟨rfl, ⟨_, _, _, hRf.out⟩, hc.out.trans hcf.out (fun j q => .inl q)⟩
    · obtain rfl : k = m := by omega
      have hRe := hRh.out
      obtain ⟨w3, w4, hrun1, hrun2, d1, d2, d3, d4, f3, f4, hRf, hcf⟩ := crash_tail hRe
      replace hRe := Lib.hid hRe
      go_wp2_with fail
      go_end0
      exact ⟨rfl, ⟨_, _, _, hRf.out⟩, hc.out.trans hcf.out (fun j q => .inl q)⟩
end Go.Proofs.Ytcemiclbeocnjaa
