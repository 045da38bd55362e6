/-
  Layer 20 (tx): the code's Note.
-/
import Derived.Test.YtcemiclbeocnjaaTk8
set_option linter.unusedVariables false
set_option linter.unusedSimpArgs false
namespace Go.Proofs.Ytcemiclbeocnjaa
open Go.RowKit Go.ChangeShapes Go.WideShapes Go.Deep Go.Maps

def noteS (noted : List Sp) (L : List Sp) : List Sp := L.foldl addS noted
theorem noteS_take (noted L : List Sp) (k : Nat) (h : k < L.length) : noteS noted (L.take (k + 1)) = addS (noteS noted (L.take k)) (L.getD k (0, 0)) := by
  unfold noteS
  rw [List.take_succ_eq_append_getElem h, List.foldl_append, List.getD_eq_getElem?_getD, List.getElem?_eq_getElem h]
  rfl
theorem noteS_ok : ∀ (L : List Sp) (noted : List Sp), Ok noted → (∀ x ∈ L, ∀ w, SIn x w → 0 ≤ w ∧ w < 300) → Ok (noteS noted L)
  | [], noted, h, _ => h
  | f :: L, noted, h, hg => by
    unfold noteS
    rw [List.foldl_cons]
    exact noteS_ok L _ (h.add (hg f (by simp))) (fun x hx => hg x (by simp [hx]))
theorem noteS_has : ∀ (L : List Sp) (noted : List Sp), Ok noted → (∀ x ∈ L, ∀ w, SIn x w → 0 ≤ w ∧ w < 300) → ∀ w, SHas (noteS noted L) w ↔ SHas noted w ∨ SHas L w
  | [], noted, h, _, w => by
    have : ¬ SHas [] w := SHas.nil w
    simp [noteS, this]
  | f :: L, noted, h, hg, w => by
    unfold noteS
    rw [List.foldl_cons]
    have := noteS_has L (addS noted f) (h.add (hg f (by simp))) (fun x hx => hg x (by simp [hx])) w
    unfold noteS at this
    rw [this, addS_has h.right, SHas.cons]
    constructor
    · rintro ((q | q) | q)
      · exact .inl q
      · exact .inr (.inl q)
      · exact .inr (.inr q)
    · rintro (q | q | q)
      · exact .inl (.inl q)
      · exact .inl (.inr q)
      · exact .inr q
structure NoteR (w wr : World) (B : Nat) (F F' : Nat → Prop) (s : St) (L : List Sp) (k : Nat) (v : Value) : Prop where
  tx : TxAt wr B F' { s with noted := noteS s.noted (L.take k) }
  sub : ∀ j, F' j → F j ∨ w.heap.size ≤ j
  own : OwnSp wr w.heap.size v L
  far : ∀ j, v.ownBlock = some j → ¬ F' j
  chg : Chg F w wr

theorem TxR.keep {F : Nat → Prop} {w w' : World} {B M : Nat} {v0 v4 : Value} {s : St} (h : TxR w B M v0 v4 F s) (hb : Below w.heap.size w w') : TxR w' B M v0 v4 F s := h.chg (Chg.of_below (fun _ => False) hb) (fun _ _ q => q)
theorem noteR_step {w wr w1 w9 : World} {B M k : Nat} {F F' : Nat → Prop} {s : St} {L : List Sp} {v v0 v4 u : Value} {y : Sp} (hN : NoteR w wr B F F' s L k v) (hT : noteS s.noted (L.take (k + 1)) = addS (noteS s.noted (L.take k)) y) (hR : TxR wr B M v0 v4 F' { s with noted := noteS s.noted (L.take k) })
    (hB1 : Below wr.heap.size wr w1) (hb : Below w1.heap.size w1 w9) (ho : OwnSp w9 w1.heap.size u (addS (noteS s.noted (L.take k)) y)) : ∃ F3, NoteR w (w9.setCell ⟨B, 0, none⟩ u) B F F3 s L (k + 1) v := by
  have hB9 := hB1.trans (hb.mono hB1.size)
  have h9 := hR.keep hB9
  have hc := Chg.setCell (S := F') w9 B 0 u h9.fB
  have hs1 := hB1.size
  have hsw := hN.chg.size
  refine ⟨_, ⟨M, u, v4, by rw [hT]; exact h9.note ho⟩, fun j q => ?_, (hN.own.keep hB9).chg hc hN.far, fun j q q2 => ?_, hN.chg.trans ((Chg.of_below F' hB9).trans hc (fun j q => .inl q)) hN.sub⟩
  · rcases q with q | q
    · exact hN.sub j q
    · have := ((ownSp_iff.1 ho).lt j q).1
      exact .inr (by omega)
  · rcases q2 with q2 | q2
    · exact hN.far j q q2
    · have := ((ownSp_iff.1 ho).lt j q2).1
      have := ((ownSp_iff.1 hN.own).lt j q).2
      omega

set_option maxRecDepth 10000 in
set_option maxHeartbeats 2000000 in
theorem Note_any (B : Nat) (F : Nat → Prop) (s : St) (x : Sp) (w : World) (h : TxAt w B F s) (hg : GoodS s) (hx : SB x) (hin : ∀ z, SIn x z → 0 ≤ z ∧ z < 300) :
    Calls Try.prog 35 #[.pointer (some ⟨B, 0, none⟩), .agg #[.int .i64 x.1, .int .i64 x.2]] w fun e w' => ∃ v F', e = .returned v ∧ OwnSp w' w.heap.size v (missS (mayL s) x) ∧
      TxAt w' B F' { s with noted := noteS s.noted (missS (mayL s) x) } ∧ (∀ k, F' k → F k ∨ w.heap.size ≤ k) ∧ (∀ k, v.ownBlock = some k → ¬ F' k) ∧ (∃ L, KeysOf s.fresh L) ∧ Chg F w w' := by
  have hB0 : Below w.heap.size w (w.alloc (.cells #[.int .i64 x.1, .int .i64 x.2] (63 : Nat))).drew := ((Below.refl _ w).alloc (Nat.le_refl _) _).drew
  have hM := missing1_any B F s x _ (h.keep hB0) hg hx
  have hBl := h.lt _ h.fB
  have kk : C2 (w.alloc (.cells #[.int .i64 x.1, .int .i64 x.2] (63 : Nat))).drew w.heap.size (.int .i64 x.1) (.int .i64 x.2) := C2.new w _ _ _
  obtain ⟨k0, k1⟩ := kk
  have c0 : ∃ v, (w.alloc (.cells #[.int .i64 x.1, .int .i64 x.2] (63 : Nat))).drew.cell? ⟨B, 0, none⟩ = some v := by
    obtain ⟨M, v0, v4, hR⟩ := h.keep hB0
    exact ⟨_, hR.cells.1.1⟩
  obtain ⟨v0, c0⟩ := c0
  have hMO := Lib.hid (fun (hk : ∃ L, KeysOf s.fresh L) => show Ok (missS (mayL s) x) from (allS_ok _ _ hg.noted (made_good hk hg.fresh)).miss hin)
  have hNO := Lib.hid hg.noted
  have hT0 := Lib.hid h
  clear h hg
  go_enter Try.func35, Try.ntmps35
  go_wp2_with fail
  refine wp_region_tail (S := (fun w' => w' = (w.alloc (.cells #[.int .i64 x.1, .int .i64 x.2] (63 : Nat))).drew)) (n := 4) (by kernel_rfl) ?_ (fun hHeld hInv => ?_) (by decide)
  · (try dsimp only)
    all_goals rfl
  refine takeS 0 (v := ?_) (tailAt (by kernel_rfl)) hInv (by decide) rfl (by kernel_rfl) (by kernel_rfl) (by kernel_rfl) (fun _ _ _ h => h) (by rfl) (by assumption) ?_ (fun hInv2 => ?_)
  rotate_left
  · (intro w hSw; (try dsimp only at hSw); (subst hSw); go_simp <;> with_reducible rfl)
  clear hInv
  have hInv := hInv2
  clear hInv2
  try simp only [Act.put, List.setIfInBounds_toArray, List.set_cons_zero, List.set_cons_succ] at hInv ⊢
  refine takeS 1 (v := ?_) (tailAt (by kernel_rfl)) hInv (by decide) rfl (by kernel_rfl) (by kernel_rfl) (by kernel_rfl) (fun _ _ _ h => h) (by rfl) (by assumption) ?_ (fun hInv2 => ?_)
  rotate_left
  · (intro w hSw; (try dsimp only at hSw); (subst hSw); go_simp <;> with_reducible rfl)
  clear hInv
  have hInv := hInv2
  clear hInv2
  try simp only [Act.put, List.setIfInBounds_toArray, List.set_cons_zero, List.set_cons_succ] at hInv ⊢
  refine takeS 2 (v := ?_) (tailAt (by kernel_rfl)) hInv (by decide) rfl (by kernel_rfl) (by kernel_rfl) (by kernel_rfl) (fun _ _ _ h => h) (by rfl) (by assumption) ?_ (fun hInv2 => ?_)
  rotate_left
  · (intro w hSw; (try dsimp only at hSw); (subst hSw); go_simp <;> with_reducible rfl)
  clear hInv
  have hInv := hInv2
  clear hInv2
  try simp only [Act.put, List.setIfInBounds_toArray, List.set_cons_zero, List.set_cons_succ] at hInv ⊢
  refine takeS 3 (v := ?_) (tailAt (by kernel_rfl)) hInv (by decide) rfl (by kernel_rfl) (by kernel_rfl) (by kernel_rfl) (fun _ _ _ h => h) (by rfl) (by assumption) ?_ (fun hInv2 => ?_)
  rotate_left
  · (intro w hSw; (try dsimp only at hSw); (subst hSw); go_simp <;> with_reducible rfl)
  clear hInv
  have hInv := hInv2
  clear hInv2
  try simp only [Act.put, List.setIfInBounds_toArray, List.set_cons_zero, List.set_cons_succ] at hInv ⊢
  refine lastS 4 rfl (by decide) (by kernel_rfl) (fun K hK => ?_)
  go_simp
  (refine hM.mono ?_; rintro e w8 ⟨v2, rfl, ho2, hk, hb⟩; obtain ⟨m, hm⟩ : ∃ m, (missS (mayL s) x).length = m := ⟨_, rfl⟩; obtain ⟨A, cap, rfl, hq⟩ := ((ownSp_iff.1 ho2).el spE_len).form hm; clear hq hM; replace hk := Lib.hid hk; have hBB := Lib.hid (hB0.trans (hb.mono (by simp))))
  refine hK.out _ _ ?_
  clear hK K
  try simp only [Act.put, List.setIfInBounds_toArray, List.set_cons_zero, List.set_cons_succ]
  refine lastS 5 rfl (by decide) (by kernel_rfl) (fun K hK => ?_)
  go_simp
  refine hK.out _ _ ?_
  clear hK K
  try simp only [Act.put, List.setIfInBounds_toArray, List.set_cons_zero, List.set_cons_succ]
  refine wpAnyS_done (by kernel_rfl) ?_ _
  replace hMO := Lib.hid (hMO.out hk.out)
  obtain ⟨L, hLL⟩ : ∃ L, missS (mayL s) x = L := ⟨_, rfl⟩
  rw [hLL] at hm ho2 hMO
  replace hLL := Lib.hid hLL
  have hLm := Lib.hid hm
  have hNk := Lib.hid (fun k (h : k < m) => noteS_take s.noted L k (by omega))
  have hNok := Lib.hid (fun k => noteS_ok (L.take k) s.noted hNO.out (fun x hx => hMO.out.inn (List.mem_of_mem_take hx)))
  have hSb := Lib.hid (fun k (h : k < m) => show SB (L.getD k (0, 0)) from hMO.out.sbs.at k (by omega))
  have hm9 : m ≤ 300 := by have := hMO.out.len; omega
  have hsz8 := hBB.out.size
  have hN0 : NoteR w w8 B F F s L 0 (.slice A m cap) := ⟨hT0.out.keep hBB.out, fun j q => .inl q, ho2.mono (by simp), fun j q q2 => by have := ((ownSp_iff.1 ho2).lt j q).1; have := hT0.out.lt j q2; simp at *; omega, Chg.of_below F hBB.out⟩
  clear hm ho2 hb k0 k1 c0 hB0
  go_wp2_with fail
  go_loopw [15] (fun i wr => ∃ (k : Nat) (F' : Nat → Prop), k ≤ m ∧ i = .int .i64 k ∧ NoteR w wr B F F' s L k (.slice A m cap)) (fun i _ => m + 1 - (intOf i).toNat)
  case atStart => exact ⟨0, F, Nat.zero_le _, rfl, hN0⟩
  case round =>
    clear hN0
    obtain ⟨k, F', hk9, rfl, hN⟩ := hrel
    by_cases hlt : k < m
    · obtain ⟨A2, cap2, he, hC⟩ := hN.own.pl.form hLm.out
      obtain ⟨g2, off, hA, hcap, hg, d0, d1⟩ := hC wr k (Below.refl _ _) hlt
      cases he
      subst hA
      clear hC
      have hlt' : (k : Int) < (m : Int) := by omega
      have hTk := Lib.hid (hNk.out k hlt)
      have hOk := hNok.out k
      have hy := hSb.out k hlt
      generalize L.getD k (0, 0) = y at *
      have hB1 : Below wr.heap.size wr (wr.alloc (.cells #[.int .i64 y.1, .int .i64 y.2] (63 : Nat))).drew := ((Below.refl _ wr).alloc (Nat.le_refl _) _).drew
      obtain ⟨M, v0, v4, hR⟩ := hN.tx
      have hBr := hR.lt _ hR.fB
      have hR1 := hR.keep hB1
      have hadd := add_any v0 _ y (wr.alloc (.cells #[.int .i64 y.1, .int .i64 y.2] (63 : Nat))).drew hOk.sbs (by have := hOk.len; omega) hy hR1.noted.pl
      have hKeep := Lib.hid (fun (w9 : World) (hb : Below (wr.alloc (.cells #[.int .i64 y.1, .int .i64 y.2] (63 : Nat))).drew.heap.size (wr.alloc (.cells #[.int .i64 y.1, .int .i64 y.2] (63 : Nat))).drew w9) => show w9.cell? ⟨B, 0, none⟩ = some v0 ∧ w9.frozen? ⟨B, 0, none⟩ = false ∧ w9.cell? ⟨wr.heap.size, 0, none⟩ = some (.int .i64 y.1) ∧ w9.cell? ⟨wr.heap.size, 1, none⟩ = some (.int .i64 y.2) from
        ⟨(hR1.keep hb).cells.1.1, (hR1.keep hb).cells.2 0, ((show C2 (wr.alloc (.cells #[.int .i64 y.1, .int .i64 y.2] (63 : Nat))).drew wr.heap.size _ _ from C2.new wr _ _ _).keep hb).1, ((show C2 (wr.alloc (.cells #[.int .i64 y.1, .int .i64 y.2] (63 : Nat))).drew wr.heap.size _ _ from C2.new wr _ _ _).keep hb).2⟩)
      have hFin := Lib.hid (fun (w9 : World) (u : Value) (hb : Below (wr.alloc (.cells #[.int .i64 y.1, .int .i64 y.2] (63 : Nat))).drew.heap.size (wr.alloc (.cells #[.int .i64 y.1, .int .i64 y.2] (63 : Nat))).drew w9) (ho : OwnSp w9 (wr.alloc (.cells #[.int .i64 y.1, .int .i64 y.2] (63 : Nat))).drew.heap.size u (addS (noteS s.noted (L.take k)) y)) => noteR_step hN hTk.out hR hB1 hb ho)
      clear hR hR1 hy hOk
      obtain ⟨nn, hnn⟩ : ∃ nn, (noteS s.noted (L.take k)).length = nn := ⟨_, rfl⟩
      clear hnn
      replace hN := Lib.hid hN
      go_wp2_with fail
      refine wp_region_tail (S := (fun w9 => w9.cell? ⟨B, 0, none⟩ = some v0 ∧ w9.frozen? ⟨B, 0, none⟩ = false ∧ w9.cell? ⟨wr.heap.size, 0, none⟩ = some (.int .i64 y.1) ∧ w9.cell? ⟨wr.heap.size, 1, none⟩ = some (.int .i64 y.2))) (n := 11) (by kernel_rfl) ?_ (fun hHeld hInv => ?_) (by decide)
      · (try dsimp only)
        (first | (exact hKeep.out _ (Below.refl _ _)) | (exact hKeep.out _ hb3))
      refine takeS 0 (v := ?_) (tailAt (by kernel_rfl)) hInv (by decide) rfl (by kernel_rfl) (by kernel_rfl) (by kernel_rfl) (fun _ _ _ h => h) (by rfl) (by assumption) ?_ (fun hInv2 => ?_)
      rotate_left
      · (intro w hSw; (try dsimp only at hSw); (try go_split_ands); go_simp <;> with_reducible rfl)
      clear hInv
      have hInv := hInv2
      clear hInv2
      try simp only [Act.put, List.setIfInBounds_toArray, List.set_cons_zero, List.set_cons_succ] at hInv ⊢
      refine takeS 1 (v := ?_) (tailAt (by kernel_rfl)) hInv (by decide) rfl (by kernel_rfl) (by kernel_rfl) (by kernel_rfl) (fun _ _ _ h => h) (by rfl) (by assumption) ?_ (fun hInv2 => ?_)
      rotate_left
      · (intro w hSw; (try dsimp only at hSw); (try go_split_ands); go_simp <;> with_reducible rfl)
      clear hInv
      have hInv := hInv2
      clear hInv2
      try simp only [Act.put, List.setIfInBounds_toArray, List.set_cons_zero, List.set_cons_succ] at hInv ⊢
      refine takeS 2 (v := ?_) (tailAt (by kernel_rfl)) hInv (by decide) rfl (by kernel_rfl) (by kernel_rfl) (by kernel_rfl) (fun _ _ _ h => h) (by rfl) (by assumption) ?_ (fun hInv2 => ?_)
      rotate_left
      · (intro w hSw; (try dsimp only at hSw); (try go_split_ands); go_simp <;> with_reducible rfl)
      clear hInv
      have hInv := hInv2
      clear hInv2
      try simp only [Act.put, List.setIfInBounds_toArray, List.set_cons_zero, List.set_cons_succ] at hInv ⊢
      refine takeS 3 (v := ?_) (tailAt (by kernel_rfl)) hInv (by decide) rfl (by kernel_rfl) (by kernel_rfl) (by kernel_rfl) (fun _ _ _ h => h) (by rfl) (by assumption) ?_ (fun hInv2 => ?_)
      rotate_left
      · (intro w hSw; (try dsimp only at hSw); (try go_split_ands); go_simp <;> with_reducible rfl)
      clear hInv
      have hInv := hInv2
      clear hInv2
      try simp only [Act.put, List.setIfInBounds_toArray, List.set_cons_zero, List.set_cons_succ] at hInv ⊢
      refine takeS 4 (v := ?_) (tailAt (by kernel_rfl)) hInv (by decide) rfl (by kernel_rfl) (by kernel_rfl) (by kernel_rfl) (fun _ _ _ h => h) (by rfl) (by assumption) ?_ (fun hInv2 => ?_)
      rotate_left
      · (intro w hSw; (try dsimp only at hSw); (try go_split_ands); go_simp <;> with_reducible rfl)
      clear hInv
      have hInv := hInv2
      clear hInv2
      try simp only [Act.put, List.setIfInBounds_toArray, List.set_cons_zero, List.set_cons_succ] at hInv ⊢
      refine takeS 5 (v := ?_) (tailAt (by kernel_rfl)) hInv (by decide) rfl (by kernel_rfl) (by kernel_rfl) (by kernel_rfl) (fun _ _ _ h => h) (by rfl) (by assumption) ?_ (fun hInv2 => ?_)
      rotate_left
      · (intro w hSw; (try dsimp only at hSw); (try go_split_ands); go_simp <;> with_reducible rfl)
      clear hInv
      have hInv := hInv2
      clear hInv2
      try simp only [Act.put, List.setIfInBounds_toArray, List.set_cons_zero, List.set_cons_succ] at hInv ⊢
      refine takeS 6 (v := ?_) (tailAt (by kernel_rfl)) hInv (by decide) rfl (by kernel_rfl) (by kernel_rfl) (by kernel_rfl) (fun _ _ _ h => h) (by rfl) (by assumption) ?_ (fun hInv2 => ?_)
      rotate_left
      · (intro w hSw; (try dsimp only at hSw); (try go_split_ands); go_simp <;> with_reducible rfl)
      clear hInv
      have hInv := hInv2
      clear hInv2
      try simp only [Act.put, List.setIfInBounds_toArray, List.set_cons_zero, List.set_cons_succ] at hInv ⊢
      refine oneS 7 hInv (by decide) rfl (by kernel_rfl) (fun K hK => ?_)
      go_simp
      (refine hadd.mono ?_; rintro e w9 ⟨v2, rfl, ho3, hb3⟩; obtain ⟨A3, cap3, rfl, hq⟩ := ((ownSp_iff.1 ho3).el spE_len).form rfl; clear hq hadd; have hF3 := Lib.hid (hFin.out w9 _ hb3 ho3); generalize (addS (noteS s.noted (L.take k)) y).length = m3 at *)
      refine hK.out _ _ ?_ (fun hHeld2 hInv2 => ?_)
      · (try dsimp only)
        (first | (exact hKeep.out _ (Below.refl _ _)) | (exact hKeep.out _ hb3))
      clear hK K hHeld hInv
      have hHeld := hHeld2
      have hInv := hInv2
      clear hHeld2 hInv2
      try simp only [Act.put, List.setIfInBounds_toArray, List.set_cons_zero, List.set_cons_succ] at hInv ⊢
      refine takeS 8 (v := ?_) (tailAt (by kernel_rfl)) hInv (by decide) rfl (by kernel_rfl) (by kernel_rfl) (by kernel_rfl) (fun _ _ _ h => h) (by rfl) (by assumption) ?_ (fun hInv2 => ?_)
      rotate_left
      · (intro w hSw; (try dsimp only at hSw); (try go_split_ands); go_simp <;> with_reducible rfl)
      clear hInv
      have hInv := hInv2
      clear hInv2
      try simp only [Act.put, List.setIfInBounds_toArray, List.set_cons_zero, List.set_cons_succ] at hInv ⊢
      refine takeS 9 (v := ?_) (tailAt (by kernel_rfl)) hInv (by decide) rfl (by kernel_rfl) (by kernel_rfl) (by kernel_rfl) (fun _ _ _ h => h) (by rfl) (by assumption) ?_ (fun hInv2 => ?_)
      rotate_left
      · (intro w hSw; (try dsimp only at hSw); (try go_split_ands); go_simp <;> with_reducible rfl)
      clear hInv
      have hInv := hInv2
      clear hInv2
      try simp only [Act.put, List.setIfInBounds_toArray, List.set_cons_zero, List.set_cons_succ] at hInv ⊢
      refine takeS 10 (v := ?_) (tailAt (by kernel_rfl)) hInv (by decide) rfl (by kernel_rfl) (by kernel_rfl) (by kernel_rfl) (fun _ _ _ h => h) (by rfl) (by assumption) ?_ (fun hInv2 => ?_)
      rotate_left
      · (intro w hSw; (try dsimp only at hSw); (try go_split_ands); go_simp <;> with_reducible rfl)
      clear hInv
      have hInv := hInv2
      clear hInv2
      try simp only [Act.put, List.setIfInBounds_toArray, List.set_cons_zero, List.set_cons_succ] at hInv ⊢
      refine lastS 11 rfl (by decide) (by kernel_rfl) (fun K hK => ?_)
      obtain ⟨e0, e1, e2, e3⟩ := id hHeld
      go_simp
      refine hK.out _ _ ?_
      clear hK K
      refine wpAnyS_done (by kernel_rfl) ?_ _
      go_wp2_with fail
      obtain ⟨F3, hF4⟩ := hF3.out
      go_roundw
      case rel => exact ⟨k + 1, F3, by omega, by go_num, hF4⟩
      case measure => simp [intOf]; omega
    · obtain rfl : k = m := by omega
      have hl : L.take k = L := List.take_of_length_le (by have := hLm.out; omega)
      obtain ⟨t1, t2, t3, t4, t5⟩ := hN
      rw [hl] at t1
      replace t1 := Lib.hid t1
      replace t2 := Lib.hid t2
      replace t3 := Lib.hid t3
      replace t4 := Lib.hid t4
      replace t5 := Lib.hid t5
      go_wp2_with fail
      go_ret
      refine ⟨_, F', rfl, ?_⟩
      rw [hLL.out]
      exact ⟨t3.out, t1.out, t2.out, t4.out, hk.out, t5.out⟩
end Go.Proofs.Ytcemiclbeocnjaa
