/-
  Layer 20 (tx): what of words isn't noted, and no fresh object's: the code's missing, May.
-/
import Derived.Test.YtcemiclbeocnjaaTk7
set_option linter.unusedVariables false
set_option linter.unusedSimpArgs false
namespace Go.Proofs.Ytcemiclbeocnjaa
open Go.RowKit Go.ChangeShapes Go.WideShapes Go.Deep Go.Maps

/-- a right list of words from 0 to 299 -/
structure Ok (l : List Sp) : Prop where
  right : SRight l
  low : ∀ w, SHas l w → 0 ≤ w ∧ w < 300
theorem Ok.nil : Ok [] := ⟨SRight.nil, fun w h => absurd h (SHas.nil w)⟩
theorem Ok.add {l : List Sp} {s : Sp} (h : Ok l) (hs : ∀ w, SIn s w → 0 ≤ w ∧ w < 300) : Ok (addS l s) :=
  ⟨addS_right h.right, fun w hw => by rcases (addS_has h.right w).1 hw with q | q; exact h.low w q; exact hs w q⟩
theorem Ok.miss {l : List Sp} {s : Sp} (h : Ok l) (hs : ∀ w, SIn s w → 0 ≤ w ∧ w < 300) : Ok (missS l s) :=
  ⟨missS_right h.right, fun w hw => hs w ((missS_has h.right w).1 hw).1⟩
theorem Ok.span {l : List Sp} (h : Ok l) {x : Sp} (hx : x ∈ l) : 1 ≤ x.2 ∧ 0 ≤ x.1 ∧ x.1 + x.2 ≤ 300 := by
  have h1 := h.right.1 x hx
  have h2 := h.low x.1 ⟨x, hx, Int.le_refl _, by omega⟩
  have h3 := h.low (x.1 + x.2 - 1) ⟨x, hx, by omega, by omega⟩
  omega
theorem Ok.inn {l : List Sp} (h : Ok l) {x : Sp} (hx : x ∈ l) : ∀ w, SIn x w → 0 ≤ w ∧ w < 300 := fun w hw => h.low w ⟨x, hx, hw⟩
theorem Ok.sb {l : List Sp} (h : Ok l) {x : Sp} (hx : x ∈ l) : SB x := by
  have := h.span hx
  unfold SB; omega
theorem Ok.sbs {l : List Sp} (h : Ok l) : SBs l := fun x hx => h.sb hx
theorem right_len : ∀ (l : List Sp) (lo : Int), SRight l → (∀ x ∈ l, lo ≤ x.1 ∧ x.1 + x.2 ≤ 300) → (l.length : Int) ≤ max 0 (300 - lo)
  | [], lo, _, _ => by simp; omega
  | x :: m, lo, h, hb => by
    obtain ⟨h1, h2, h3⟩ := SRight.cons.1 h
    have hx := hb x (by simp)
    have := right_len m (lo + 1) h3 (fun y hy => by have := h2 y hy; have := hb y (by simp [hy]); omega)
    rw [List.length_cons]
    omega
theorem Ok.len {l : List Sp} (h : Ok l) : l.length ≤ 300 := by
  have := right_len l 0 h.right (fun x hx => by have := h.span hx; omega)
  omega
/-- the words of a fresh object -/
def objS (f : Fx) : Sp := (f.2.1, f.2.2.2.1 + 2)
def GoodF (f : Fx) : Prop := 0 ≤ f.2.1 ∧ f.2.1 ≤ 200 ∧ 0 ≤ f.2.2.2.1 ∧ f.2.2.2.1 ≤ 18 ∧ f.2.1 % 20 = 0
theorem GoodF.inn {f : Fx} (h : GoodF f) : ∀ w, SIn (objS f) w → 0 ≤ w ∧ w < 300 := by
  obtain ⟨h1, h2, h3, h4, _⟩ := h
  intro w hw
  unfold SIn objS at hw
  simp only [] at hw
  omega
theorem GoodF.sb {f : Fx} (h : GoodF f) : SB (objS f) := by
  obtain ⟨h1, h2, h3, h4, _⟩ := h
  unfold SB objS
  simp only []
  omega
def allS (noted : List Sp) (L : List Fx) : List Sp := L.foldl (fun all f => addS all (objS f)) noted
theorem allS_take (noted : List Sp) (L : List Fx) (k : Nat) (h : k < L.length) : allS noted (L.take (k + 1)) = addS (allS noted (L.take k)) (objS (L.getD k default)) := by
  unfold allS
  rw [List.take_succ_eq_append_getElem h, List.foldl_append, List.getD_eq_getElem?_getD, List.getElem?_eq_getElem h]
  rfl
theorem allS_ok : ∀ (L : List Fx) (noted : List Sp), Ok noted → (∀ f ∈ L, GoodF f) → Ok (allS noted L)
  | [], noted, h, _ => h
  | f :: L, noted, h, hg => by
    unfold allS
    rw [List.foldl_cons]
    exact allS_ok L _ (h.add (hg f (by simp)).inn) (fun x hx => hg x (by simp [hx]))
theorem allS_has : ∀ (L : List Fx) (noted : List Sp), Ok noted → (∀ f ∈ L, GoodF f) → ∀ w, SHas (allS noted L) w ↔ SHas noted w ∨ ∃ f ∈ L, SIn (objS f) w
  | [], noted, h, _, w => by simp [allS]
  | f :: L, noted, h, hg, w => by
    unfold allS
    rw [List.foldl_cons]
    have := allS_has L (addS noted (objS f)) (h.add (hg f (by simp)).inn) (fun x hx => hg x (by simp [hx])) w
    unfold allS at this
    rw [this, addS_has h.right]
    constructor
    · rintro ((q | q) | ⟨x, hx, q⟩)
      · exact .inl q
      · exact .inr ⟨f, by simp, q⟩
      · exact .inr ⟨x, by simp [hx], q⟩
    · rintro (q | ⟨x, hx, q⟩)
      · exact .inl (.inl q)
      · rcases List.mem_cons.1 hx with rfl | hx
        · exact .inl (.inr q)
        · exact .inr ⟨x, hx, q⟩
/-- what a transaction has may be gone through -/
structure GoodS (s : St) : Prop where
  noted : Ok s.noted
  fresh : ∀ x f, s.fresh x = some f → GoodF f ∧ f.2.1 = x
  n : s.n ≤ 1000
theorem made_mem {g : Gf} (hk : ∃ L, KeysOf g L) (hk2 : ∀ x f, g x = some f → GoodF f ∧ f.2.1 = x) {f : Fx} : f ∈ madeL g ↔ g f.2.1 = some f := by
  obtain ⟨L, hL⟩ := hk
  rw [madeL_eq hL, List.mem_map]
  constructor
  · rintro ⟨x, hx, rfl⟩
    obtain ⟨f, hf⟩ := (hL.mem x).1 hx
    rw [hf, Option.getD_some, (hk2 x f hf).2, hf]
  · intro h
    exact ⟨f.2.1, (hL.mem _).2 ⟨f, h⟩, by rw [h]; rfl⟩
theorem made_good {g : Gf} (hk : ∃ L, KeysOf g L) (hk2 : ∀ x f, g x = some f → GoodF f ∧ f.2.1 = x) : ∀ f ∈ madeL g, GoodF f := fun f hf => (hk2 _ _ ((made_mem hk hk2).1 hf)).1
/-- all that may be stored to -/
noncomputable def mayL (s : St) : List Sp := allS s.noted (madeL s.fresh)

set_option maxRecDepth 10000 in
set_option maxHeartbeats 2000000 in
theorem missing1_any (B : Nat) (F : Nat → Prop) (s : St) (x : Sp) (w : World) (h : TxAt w B F s) (hg : GoodS s) (hx : SB x) :
    Calls Try.prog 76 #[.pointer (some ⟨B, 0, none⟩), .agg #[.int .i64 x.1, .int .i64 x.2]] w fun e w' => ∃ v, e = .returned v ∧ OwnSp w' w.heap.size v (missS (mayL s) x) ∧ (∃ L, KeysOf s.fresh L) ∧ Below w.heap.size w w' := by
  obtain ⟨w0, hw0⟩ : ∃ w0, w.alloc (.cells #[.int .i64 x.1, .int .i64 x.2] (63 : Nat)) = w0 := ⟨_, rfl⟩
  have hb0 : Below w.heap.size w w0 := by rw [← hw0]; exact (Below.refl _ w).alloc (Nat.le_refl _) _
  have kk : C2 w0 w.heap.size (.int .i64 x.1) (.int .i64 x.2) := by rw [← hw0]; exact C2.new w _ _ _
  have h0 := h.keep hb0
  have hM := made_any B F s w0 h0 hg.n
  have hBl := h.lt _ h.fB
  have hgm := Lib.hid (fun (hk : ∃ L, KeysOf s.fresh L) => made_good hk hg.fresh)
  have hok := Lib.hid hg.noted
  have hmn := hg.n
  obtain ⟨M, v0, v4, hR⟩ := h0
  obtain ⟨⟨c0, c1, c2, c3, c4, c5, c6⟩, fz⟩ := hR.cells
  have hN := Lib.hid hR.noted
  obtain ⟨A0, cap0, rfl, hq⟩ := ((ownSp_iff.1 hR.noted).el spE_len).form rfl
  have hU := Lib.hid (show mayL s = allS s.noted (madeL s.fresh) from rfl)
  generalize mayL s = may at *
  clear hR fz c1 c2 c3 c4 c5 c6 hq h hg
  obtain ⟨noted, fresh, n, depth, bad, gone, root, named⟩ := s
  simp only [] at *
  obtain ⟨nn, hnn⟩ : ∃ nn, noted.length = nn := ⟨_, rfl⟩
  rw [hnn] at c0 hN
  replace hnn := Lib.hid hnn
  have hsz0 : w0.heap.size = w.heap.size + 1 := by rw [← hw0]; simp
  go_enter Try.func76, Try.ntmps76
  go_wp2_with (go_at_call 81; refine hM.mono ?_; rintro e w1 ⟨v, rfl, hv, hk, hvn, hb⟩
               obtain ⟨m, hm⟩ : ∃ m, (madeL fresh).length = m := ⟨_, rfl⟩
               obtain ⟨A, cap, rfl, hC⟩ := (hv.el fE_len).form hm
               clear hC)
  replace hgm := Lib.hid (hgm.out hk)
  have hT := Lib.hid (fun k (hk : k < m) => allS_take noted (madeL fresh) k (by omega))
  have hO := Lib.hid (fun k => allS_ok ((madeL fresh).take k) noted hok.out (fun f hf => hgm.out f (List.mem_of_mem_take hf)))
  have hG := Lib.hid (fun k (hk : k < m) => show GoodF ((madeL fresh).getD k default) from hgm.out _ (by
    rw [List.getD_eq_getElem?_getD, List.getElem?_eq_getElem (by omega)]
    exact List.getElem_mem _))
  have hLm := Lib.hid hm
  have hmn2 : m ≤ 1000 := by omega
  have hvE := hv
  have hN1 : OwnSp w1 0 (.slice A0 nn cap0) noted := hN.out.keep hb
  have hk' := Lib.hid hk
  clear hM hm hvn hk hv c0 hN hgm hnn
  generalize madeL fresh = L at *
  have hb0' := Lib.hid hb0
  have hb' := hb
  clear hb0 hb
  go_loopw [5, 15] (fun v i wr => ∃ k : Nat, k ≤ m ∧ i = .int .i64 k ∧ OwnSp wr 0 v (allS noted (L.take k)) ∧ Hid (OwnE 69 9 fE wr w0.heap.size (.slice A m cap) L) ∧ Below w0.heap.size w0 wr) (fun _ i _ => m + 1 - (intOf i).toNat)
  case atStart => exact ⟨0, Nat.zero_le _, rfl, hN1, hvE, hb'⟩
  case round =>
    clear hN1 hvE hb'
    obtain ⟨k, hk, rfl, hv, hoL, hB⟩ := hrel
    have hsz := hB.size
    by_cases hlt : k < m
    · obtain ⟨A2, cap2, he, hC⟩ := (hoL.out.el fE_len).form hLm.out
      obtain ⟨g2, off, hA, hcap, _, hg, hcl⟩ := hC wr k (Below.refl _ _) hlt
      cases he
      subst hA
      have hlt' : (k : Int) < (m : Int) := by omega
      have hGk := hG.out k hlt
      have hTk := Lib.hid (hT.out k hlt)
      have hOk := hO.out k
      have hOk1 := hO.out (k + 1)
      have d0 := hcl 0 (by omega)
      have d1 := hcl 1 (by omega)
      have d2 := hcl 2 (by omega)
      have d3 := hcl 3 (by omega)
      have d4 := hcl 4 (by omega)
      have d5 := hcl 5 (by omega)
      have d6 := hcl 6 (by omega)
      have d7 := hcl 7 (by omega)
      have d8 := hcl 8 (by omega)
      clear hcl hC
      rw [Nat.add_zero] at d0
      rw [hT.out k hlt] at hOk1
      generalize L.getD k default = f at *
      have hadd := fun (w2 : World) (hb : Below wr.heap.size wr w2) => add_any _ _ (objS f) w2 hOk.sbs (by have := hOk.len; omega) hGk.sb (hv.keep hb).pl
      obtain ⟨h1, h2, h3, h4, _⟩ := hGk
      obtain ⟨⟨a1, a2, a3, a4, a5⟩, a6, a7, a8, a9⟩ := f
      simp only [objS] at *
      replace d0 : wr.cell? ⟨g2, off + k * 9, none⟩ = some (.int .i64 a1) := d0
      replace d1 : wr.cell? ⟨g2, off + k * 9 + 1, none⟩ = some (.int .i64 a2) := d1
      replace d2 : wr.cell? ⟨g2, off + k * 9 + 2, none⟩ = some (.int .i64 a3) := d2
      replace d3 : wr.cell? ⟨g2, off + k * 9 + 3, none⟩ = some (.int .i64 a4) := d3
      replace d4 : wr.cell? ⟨g2, off + k * 9 + 4, none⟩ = some (.bool a5) := d4
      replace d5 : wr.cell? ⟨g2, off + k * 9 + 5, none⟩ = some (.int .i64 a6) := d5
      replace d6 : wr.cell? ⟨g2, off + k * 9 + 6, none⟩ = some (.int .i64 a7) := d6
      replace d7 : wr.cell? ⟨g2, off + k * 9 + 7, none⟩ = some (.int .i64 a8) := d7
      replace d8 : wr.cell? ⟨g2, off + k * 9 + 8, none⟩ = some (.int .u64 a9) := d8
      have hA1 : Below wr.heap.size wr (wr.alloc (.cells #[.int .i64 a1, .int .i64 a2, .int .i64 a3, .int .i64 a4, .bool a5, .int .i64 a6, .int .i64 a7, .int .i64 a8, .int .u64 a9] (69 : Nat))) := (Below.refl _ wr).alloc (Nat.le_refl _) _
      replace hadd := hadd _ hA1
      replace hv := Lib.hid hv
      go_wp2_with (go_at_call 77; refine hadd.mono ?_; rintro e w2 ⟨v2, rfl, ho2, hb2⟩
                   have hB2 := Lib.hid (hA1.trans (hb2.mono hA1.size))
                   replace ho2 := Lib.hid (ho2.mono (Nat.zero_le _))
                   clear hadd hb2 hA1 d0 d1 d2 d3 d4 d5 d6 d7 d8)
      go_roundw
      case rel => exact ⟨k + 1, by omega, by go_num, by rw [hTk.out]; exact ho2.out, hoL.out.keep hB2.out, hB.trans (hB2.out.mono hsz)⟩
      case measure => simp [intOf]; omega
    · obtain rfl : k = m := by omega
      have hl : (L.take k) = L := List.take_of_length_le (by have := hLm.out; omega)
      have hOk := hO.out k
      rw [hl] at hv hOk
      rw [← hU.out] at hv hOk
      have hms := missing_any _ _ x wr hOk.sbs (by have := hOk.len; omega) hx hv.pl
      have kr := kk.keep hB
      obtain ⟨k0, k1⟩ := kr
      have hbb := Lib.hid (hb0'.out.trans (hB.mono (by omega)))
      clear hl hoL hOk hv kk
      go_wp2_with (go_at_call 93; refine hms.mono ?_; rintro e w2 ⟨v2, rfl, ho2, hb2⟩)
      go_ret
      exact ⟨_, rfl, ho2.mono (by omega), hk'.out, hbb.out.trans (hb2.mono (by omega))⟩

set_option maxRecDepth 10000 in
set_option maxHeartbeats 1000000 in
theorem May_any (B : Nat) (F : Nat → Prop) (s : St) (x : Sp) (w : World) (h : TxAt w B F s) (hg : GoodS s) (hx : SB x) :
    Calls Try.prog 34 #[.pointer (some ⟨B, 0, none⟩), .agg #[.int .i64 x.1, .int .i64 x.2]] w fun e w' => e = .returned (.bool (covS (mayL s) x)) ∧ (∃ L, KeysOf s.fresh L) ∧ Below w.heap.size w w' := by
  have hB0 : Below w.heap.size w (w.alloc (.cells #[.int .i64 x.1, .int .i64 x.2] (63 : Nat))).drew := ((Below.refl _ w).alloc (Nat.le_refl _) _).drew
  have hM := missing1_any B F s x _ (h.keep hB0) hg hx
  have hBl := h.lt _ h.fB
  have kk : C2 (w.alloc (.cells #[.int .i64 x.1, .int .i64 x.2] (63 : Nat))).drew w.heap.size (.int .i64 x.1) (.int .i64 x.2) := C2.new w _ _ _
  obtain ⟨k0, k1⟩ := kk
  have c0 : ∃ v, (w.alloc (.cells #[.int .i64 x.1, .int .i64 x.2] (63 : Nat))).drew.cell? ⟨B, 0, none⟩ = some v := by
    obtain ⟨M, v0, v4, hR⟩ := h.keep hB0
    exact ⟨_, hR.cells.1.1⟩
  obtain ⟨v0, c0⟩ := c0
  have hU := Lib.hid (show covS (mayL s) x = (missS (mayL s) x).isEmpty from rfl)
  clear h hg
  go_enter Try.func34, Try.ntmps34
  go_wp2_with fail
  refine wp_region_tail (S := (fun w' => w' = (w.alloc (.cells #[.int .i64 x.1, .int .i64 x.2] (63 : Nat))).drew)) (n := 4) (by kernel_rfl) ?_ (fun hHeld hInv => ?_) (by decide)
  · (try dsimp only)
    all_goals rfl
  refine takeS 0 (v := ?_) (tailAt (by kernel_rfl)) hInv (by decide) rfl (by kernel_rfl) (by kernel_rfl) (by kernel_rfl) (fun _ _ _ h => h) (by rfl) (by assumption) ?_ (fun hInv2 => ?_)
  rotate_left
  · (intro w hSw; (try dsimp only at hSw); (subst hSw); go_simp <;> with_reducible rfl)
  clear hInv
  have hInv := hInv2
  clear hInv2
  try simp only [Act.put, List.setIfInBounds_toArray, List.set_cons_zero, List.set_cons_succ] at hInv ⊢
  refine takeS 1 (v := ?_) (tailAt (by kernel_rfl)) hInv (by decide) rfl (by kernel_rfl) (by kernel_rfl) (by kernel_rfl) (fun _ _ _ h => h) (by rfl) (by assumption) ?_ (fun hInv2 => ?_)
  rotate_left
  · (intro w hSw; (try dsimp only at hSw); (subst hSw); go_simp <;> with_reducible rfl)
  clear hInv
  have hInv := hInv2
  clear hInv2
  try simp only [Act.put, List.setIfInBounds_toArray, List.set_cons_zero, List.set_cons_succ] at hInv ⊢
  refine takeS 2 (v := ?_) (tailAt (by kernel_rfl)) hInv (by decide) rfl (by kernel_rfl) (by kernel_rfl) (by kernel_rfl) (fun _ _ _ h => h) (by rfl) (by assumption) ?_ (fun hInv2 => ?_)
  rotate_left
  · (intro w hSw; (try dsimp only at hSw); (subst hSw); go_simp <;> with_reducible rfl)
  clear hInv
  have hInv := hInv2
  clear hInv2
  try simp only [Act.put, List.setIfInBounds_toArray, List.set_cons_zero, List.set_cons_succ] at hInv ⊢
  refine takeS 3 (v := ?_) (tailAt (by kernel_rfl)) hInv (by decide) rfl (by kernel_rfl) (by kernel_rfl) (by kernel_rfl) (fun _ _ _ h => h) (by rfl) (by assumption) ?_ (fun hInv2 => ?_)
  rotate_left
  · (intro w hSw; (try dsimp only at hSw); (subst hSw); go_simp <;> with_reducible rfl)
  clear hInv
  have hInv := hInv2
  clear hInv2
  try simp only [Act.put, List.setIfInBounds_toArray, List.set_cons_zero, List.set_cons_succ] at hInv ⊢
  refine lastS 4 rfl (by decide) (by kernel_rfl) (fun K hK => ?_)
  go_simp
  (refine hM.mono ?_; rintro e w8 ⟨v2, rfl, ho2, hk, hb⟩; obtain ⟨m, hm⟩ : ∃ m, (missS (mayL s) x).length = m := ⟨_, rfl⟩; obtain ⟨A2, cap2, rfl, hq⟩ := ((ownSp_iff.1 ho2).el spE_len).form hm; clear hq ho2 hM; replace hk := Lib.hid hk; have hBB := Lib.hid (hB0.trans (hb.mono (by simp))))
  refine hK.out _ _ ?_
  clear hK K
  try simp only [Act.put, List.setIfInBounds_toArray, List.set_cons_zero, List.set_cons_succ]
  refine lastS 5 rfl (by decide) (by kernel_rfl) (fun K hK => ?_)
  go_simp
  refine hK.out _ _ ?_
  clear hK K
  try simp only [Act.put, List.setIfInBounds_toArray, List.set_cons_zero, List.set_cons_succ]
  refine lastS 6 rfl (by decide) (by kernel_rfl) (fun K hK => ?_)
  go_simp
  refine hK.out _ _ ?_
  clear hK K
  try simp only [Act.put, List.setIfInBounds_toArray, List.set_cons_zero, List.set_cons_succ]
  refine lastS 7 rfl (by decide) (by kernel_rfl) (fun K hK => ?_)
  go_simp
  refine hK.out _ _ ?_
  clear hK K
  try simp only [Act.put, List.setIfInBounds_toArray, List.set_cons_zero, List.set_cons_succ]
  refine wpAnyS_done (by kernel_rfl) ?_ _
  go_wp2_with fail
  go_ret
  refine ⟨ret_b ?_, hk.out, hBB.out⟩
  rw [hU.out]
  cases hq : missS (mayL s) x with
  | nil => rw [hq] at hm; simp at hm; subst hm; rfl
  | cons y l => rw [hq] at hm; simp at hm; subst hm; first | rfl | (simp; omega)
end Go.Proofs.Ytcemiclbeocnjaa
