/-
  Layer 20 (tx): where the document's transaction lies in memory; its own, Freed, find.
-/
import Derived.Test.YtcemiclbeocnjaaTk10
import Derived.Test.YtcemiclbeocnjaaTkO
set_option linter.unusedVariables false
set_option linter.unusedSimpArgs false
namespace Go.Proofs.Ytcemiclbeocnjaa
open Go.RowKit Go.ChangeShapes Go.WideShapes Go.Deep Go.Maps

/-- the document's transaction -/
structure Rf where
  depth : Int
  bad : Bool
  words : List Sp
  fresh : List Fx
  gone : List Int
  root : Int
  is : Bool
def rf0 : Rf := ⟨0, false, [], [], [], 0, false⟩
def rfc (v2 v3 v4 : Value) (r : Rf) : Array Value := #[.int .i64 r.depth, .bool r.bad, v2, v3, v4, .int .i64 r.root, .bool r.is]
structure RfR (w : World) (B : Nat) (v2 v3 v4 : Value) (G : Nat → Prop) (r : Rf) : Prop where
  blk : w.heap[B]? = some (.cells (rfc v2 v3 v4 r) 60 (0, 0))
  words : OwnSp w 0 v2 r.words
  fresh : OwnE 69 9 fE w 0 v3 r.fresh
  gone : OwnE 3 1 iE w 0 v4 r.gone
  gB : G B
  g2 : ∀ k, v2.ownBlock = some k → G k
  g3 : ∀ k, v3.ownBlock = some k → G k
  g4 : ∀ k, v4.ownBlock = some k → G k
  lt : ∀ k, G k → k < w.heap.size
def RfAt (w : World) (B : Nat) (G : Nat → Prop) (r : Rf) : Prop := ∃ v2 v3 v4, RfR w B v2 v3 v4 G r
theorem RfR.chg {S G : Nat → Prop} {w w' : World} {B : Nat} {v2 v3 v4 : Value} {r : Rf} (h : RfR w B v2 v3 v4 G r) (hc : Chg S w w') (hn : ∀ k, G k → ¬ S k) : RfR w' B v2 v3 v4 G r :=
  ⟨(hc.block B (h.lt _ h.gB) (hn _ h.gB)).trans h.blk, h.words.chg hc (fun k e => hn _ (h.g2 k e)), h.fresh.chg hc (fun k e => hn _ (h.g3 k e)), h.gone.chg hc (fun k e => hn _ (h.g4 k e)), h.gB, h.g2, h.g3, h.g4, fun k e => Nat.lt_of_lt_of_le (h.lt k e) hc.size⟩
theorem RfR.keep {G : Nat → Prop} {w w' : World} {B : Nat} {v2 v3 v4 : Value} {r : Rf} (h : RfR w B v2 v3 v4 G r) (hb : Below w.heap.size w w') : RfR w' B v2 v3 v4 G r := h.chg (Chg.of_below (fun _ => False) hb) (fun _ _ q => q)
theorem RfAt.chg {S G : Nat → Prop} {w w' : World} {B : Nat} {r : Rf} (h : RfAt w B G r) (hc : Chg S w w') (hn : ∀ k, G k → ¬ S k) : RfAt w' B G r := by
  obtain ⟨v2, v3, v4, h⟩ := h
  exact ⟨v2, v3, v4, h.chg hc hn⟩
theorem RfAt.keep {G : Nat → Prop} {w w' : World} {B : Nat} {r : Rf} (h : RfAt w B G r) (hb : Below w.heap.size w w') : RfAt w' B G r := h.chg (Chg.of_below (fun _ => False) hb) (fun _ _ q => q)
theorem RfAt.lt {G : Nat → Prop} {w : World} {B : Nat} {r : Rf} (h : RfAt w B G r) : ∀ k, G k → k < w.heap.size := by
  obtain ⟨v2, v3, v4, h⟩ := h
  exact h.lt
theorem RfAt.gB {G : Nat → Prop} {w : World} {B : Nat} {r : Rf} (h : RfAt w B G r) : G B := by
  obtain ⟨v2, v3, v4, h⟩ := h
  exact h.gB
theorem RfR.cells {G : Nat → Prop} {w : World} {B : Nat} {v2 v3 v4 : Value} {r : Rf} (h : RfR w B v2 v3 v4 G r) :
    (w.cell? ⟨B, 0, none⟩ = some (.int .i64 r.depth) ∧ w.cell? ⟨B, 1, none⟩ = some (.bool r.bad) ∧ w.cell? ⟨B, 2, none⟩ = some v2 ∧ w.cell? ⟨B, 3, none⟩ = some v3 ∧ w.cell? ⟨B, 4, none⟩ = some v4 ∧ w.cell? ⟨B, 5, none⟩ = some (.int .i64 r.root) ∧ w.cell? ⟨B, 6, none⟩ = some (.bool r.is)) ∧ ∀ o, w.frozen? ⟨B, o, none⟩ = false := by
  refine ⟨⟨(cell_blk h.blk rfl).1, (cell_blk h.blk rfl).1, (cell_blk h.blk rfl).1, (cell_blk h.blk rfl).1, (cell_blk h.blk rfl).1, (cell_blk h.blk rfl).1, (cell_blk h.blk rfl).1⟩, fun o => ?_⟩
  simp [World.frozen?, h.blk]
/-- one cell that is no list is another one -/
theorem RfR.put {G : Nat → Prop} {w : World} {B o : Nat} {v2 v3 v4 u : Value} {r r' : Rf} (h : RfR w B v2 v3 v4 G r) (hw : r'.words = r.words) (hf : r'.fresh = r.fresh) (hg : r'.gone = r.gone) (hu : (rfc v2 v3 v4 r).setIfInBounds o u = rfc v2 v3 v4 r') : RfR (w.setCell ⟨B, o, none⟩ u) B v2 v3 v4 G r' := by
  have hc := Chg.setCell (S := fun k => k = B) w B o u rfl
  refine ⟨by rw [set_blk h.blk, hu], by rw [hw]; exact h.words.chg hc (row_ne h.words h.blk (by decide)), by rw [hf]; exact h.fresh.chg hc (row_ne h.fresh h.blk (by decide)), by rw [hg]; exact h.gone.chg hc (row_ne h.gone h.blk (by decide)), h.gB, h.g2, h.g3, h.g4, fun k e => by rw [size_setCell]; exact h.lt k e⟩
/-- the fresh ones are another list, that is new -/
theorem RfR.freshTo {G : Nat → Prop} {w : World} {B b : Nat} {v2 v3 v4 u : Value} {r : Rf} {l : List Fx} (h : RfR w B v2 v3 v4 G r) (hu : OwnE 69 9 fE w b u l) : RfR (w.setCell ⟨B, 3, none⟩ u) B v2 u v4 (fun k => G k ∨ u.ownBlock = some k) { r with fresh := l } := by
  have hc := Chg.setCell (S := fun k => k = B) w B 3 u rfl
  refine ⟨by rw [set_blk h.blk]; rfl, h.words.chg hc (row_ne h.words h.blk (by decide)), (hu.mono (Nat.zero_le _)).chg hc (row_ne hu h.blk (by decide)), h.gone.chg hc (row_ne h.gone h.blk (by decide)), .inl h.gB, fun k e => .inl (h.g2 k e), fun k e => .inr e, fun k e => .inl (h.g4 k e), fun k e => ?_⟩
  rw [size_setCell]
  rcases e with e | e
  · exact h.lt k e
  · exact (hu.lt k e).2
theorem not_own {w : World} {b1 b2 s1 s2 : Nat} {e1 e2 : TypeId} {v1 v2 : Value} {n1 n2 : Nat} {x1 x2 : List Value} (h : w.ownsRow b1 e1 s1 v1 n1 x1) (k : w.ownsRow b2 e2 s2 v2 n2 x2) (hne : e1 ≠ e2) : ∀ j, v1.ownBlock = some j → ¬ v2.ownBlock = some j := fun j e1 e2 => by
  rcases rows_ne h k hne with q | q
  · rw [q] at e1; cases e1
  · exact q (by rw [e1, e2])
/-- the words, or what is gone, are another list, in its place or in a new one -/
theorem RfR.wordsTo {G : Nat → Prop} {w w' : World} {B : Nat} {v2 v3 v4 u : Value} {r : Rf} {l : List Sp} (h : RfR w B v2 v3 v4 G r) (hg : w.grownBy w' v2.ownBlock) (hu : OwnSp w' 0 u l) : RfR (w'.setCell ⟨B, 2, none⟩ u) B u v3 v4 (fun k => G k ∨ u.ownBlock = some k) { r with words := l } := by
  have h2 := row_ne h.words h.blk (by decide)
  have hb' : w'.heap[B]? = some (.cells (rfc v2 v3 v4 r) 60 (0, 0)) := (hg.block B (h.lt _ h.gB) (fun e => h2 B e.symm rfl)).trans h.blk
  have hc := Chg.setCell (S := fun k => k = B) w' B 2 u rfl
  have hc0 : Chg (fun k => v2.ownBlock = some k) w w' := Chg.of_grown hg (fun k e => .inl e)
  have h3 := h.fresh.chg hc0 (not_own h.fresh h.words (by decide))
  have h4 := h.gone.chg hc0 (not_own h.gone h.words (by decide))
  refine ⟨by rw [set_blk hb']; rfl, hu.chg hc (row_ne hu hb' (by decide)), h3.chg hc (row_ne h3 hb' (by decide)), h4.chg hc (row_ne h4 hb' (by decide)), .inl h.gB, fun k e => .inr e, fun k e => .inl (h.g3 k e), fun k e => .inl (h.g4 k e), fun k e => ?_⟩
  rw [size_setCell]
  rcases e with e | e
  · exact Nat.lt_of_lt_of_le (h.lt k e) hg.size
  · exact (hu.lt k e).2
theorem RfR.wordsCell {G : Nat → Prop} {w w' : World} {B : Nat} {v2 v3 v4 : Value} {r : Rf} (h : RfR w B v2 v3 v4 G r) (hg : w.grownBy w' v2.ownBlock) : w'.cell? ⟨B, 2, none⟩ = some v2 ∧ w'.frozen? ⟨B, 2, none⟩ = false := by
  have h2 := row_ne h.words h.blk (by decide)
  have hb' : w'.heap[B]? = some (.cells (rfc v2 v3 v4 r) 60 (0, 0)) := (hg.block B (h.lt _ h.gB) (fun e => h2 B e.symm rfl)).trans h.blk
  exact cell_blk hb' rfl
theorem RfR.goneTo {G : Nat → Prop} {w w' : World} {B : Nat} {v2 v3 v4 u : Value} {r : Rf} {l : List Int} (h : RfR w B v2 v3 v4 G r) (hg : w.grownBy w' v4.ownBlock) (hu : OwnE 3 1 iE w' 0 u l) : RfR (w'.setCell ⟨B, 4, none⟩ u) B v2 v3 u (fun k => G k ∨ u.ownBlock = some k) { r with gone := l } := by
  have h2 := row_ne h.gone h.blk (by decide)
  have hb' : w'.heap[B]? = some (.cells (rfc v2 v3 v4 r) 60 (0, 0)) := (hg.block B (h.lt _ h.gB) (fun e => h2 B e.symm rfl)).trans h.blk
  have hc := Chg.setCell (S := fun k => k = B) w' B 4 u rfl
  have hc0 : Chg (fun k => v4.ownBlock = some k) w w' := Chg.of_grown hg (fun k e => .inl e)
  have h3 := h.fresh.chg hc0 (not_own h.fresh h.gone (by decide))
  have h4 := h.words.chg hc0 (not_own h.words h.gone (by decide))
  refine ⟨by rw [set_blk hb']; rfl, h4.chg hc (row_ne h4 hb' (by decide)), h3.chg hc (row_ne h3 hb' (by decide)), hu.chg hc (row_ne hu hb' (by decide)), .inl h.gB, fun k e => .inl (h.g2 k e), fun k e => .inl (h.g3 k e), fun k e => .inr e, fun k e => ?_⟩
  rw [size_setCell]
  rcases e with e | e
  · exact Nat.lt_of_lt_of_le (h.lt k e) hg.size
  · exact (hu.lt k e).2
theorem RfR.goneCell {G : Nat → Prop} {w w' : World} {B : Nat} {v2 v3 v4 : Value} {r : Rf} (h : RfR w B v2 v3 v4 G r) (hg : w.grownBy w' v4.ownBlock) : w'.cell? ⟨B, 4, none⟩ = some v4 ∧ w'.frozen? ⟨B, 4, none⟩ = false := by
  have h2 := row_ne h.gone h.blk (by decide)
  have hb' : w'.heap[B]? = some (.cells (rfc v2 v3 v4 r) 60 (0, 0)) := (hg.block B (h.lt _ h.gB) (fun e => h2 B e.symm rfl)).trans h.blk
  exact cell_blk hb' rfl

def ownB (L : List Fx) (x : Int) : Bool := L.any (fun f => inB (objS f) x)
theorem ownB_take (L : List Fx) (k : Nat) (x : Int) (h : k < L.length) : ownB (L.take (k + 1)) x = (ownB (L.take k) x || inB (objS (L.getD k default)) x) := by
  unfold ownB
  rw [List.take_succ_eq_append_getElem h, List.any_append, List.getD_eq_getElem?_getD, List.getElem?_eq_getElem h]
  simp
theorem ownB_at (L : List Fx) (k : Nat) (x : Int) (h : k < L.length) (hi : inB (objS (L.getD k default)) x = true) : ownB L x = true := by
  unfold ownB
  rw [List.any_eq_true]
  refine ⟨L.getD k default, ?_, hi⟩
  rw [List.getD_eq_getElem?_getD, List.getElem?_eq_getElem h]
  exact List.getElem_mem _
theorem ownB_iff (L : List Fx) (x : Int) : ownB L x = true ↔ ∃ f ∈ L, SIn (objS f) x := by
  unfold ownB
  rw [List.any_eq_true]
  constructor
  · rintro ⟨f, h, q⟩; exact ⟨f, h, (inB_iff _ _).1 q⟩
  · rintro ⟨f, h, q⟩; exact ⟨f, h, (inB_iff _ _).2 q⟩
theorem goodF_at {L : List Fx} (h : ∀ f ∈ L, GoodF f) {k : Nat} (hk : k < L.length) : GoodF (L.getD k default) := by
  rw [List.getD_eq_getElem?_getD, List.getElem?_eq_getElem hk]
  exact h _ (List.getElem_mem hk)

set_option maxRecDepth 10000 in
set_option maxHeartbeats 2000000 in
theorem refOwn_any (B : Nat) (G : Nat → Prop) (r : Rf) (x : Int) (w : World) (h : RfAt w B G r) (hg : ∀ f ∈ r.fresh, GoodF f) (hlen : r.fresh.length ≤ 1000) (hx : -1000000 ≤ x) (hx2 : x ≤ 1000000) :
    Calls Try.prog 89 #[.pointer (some ⟨B, 0, none⟩), .int .i64 x] w fun e w' => e = .returned (.bool (ownB r.fresh x)) ∧ Below w.heap.size w w' := by
  obtain ⟨v2, v3, v4, hR⟩ := h
  have c3 := hR.cells.1.2.2.2.1
  obtain ⟨m, hm⟩ : ∃ m, r.fresh.length = m := ⟨_, rfl⟩
  obtain ⟨A, cap, rfl, hC⟩ := (hR.fresh.el fE_len).form hm
  generalize r.fresh = L at *
  have hBl := hR.lt _ hR.gB
  have hT := Lib.hid (fun k (hk : k < m) => ownB_take L k x (by omega))
  have hA := Lib.hid (fun k (hk : k < m) => ownB_at L k x (by omega))
  have hG := Lib.hid (fun k (hk : k < m) => goodF_at hg (k := k) (by omega))
  have hE := Lib.hid (show ownB (L.take m) x = ownB L x from by rw [List.take_of_length_le (by omega)])
  have h0 := Lib.hid (show ownB (L.take 0) x = false from rfl)
  have hm9 : m ≤ 1000 := by omega
  replace hC := Lib.hid hC
  clear hR hg hlen hm
  go_enter Try.func89, Try.ntmps89
  go_wp2_with fail
  go_loopw [5] (fun i wr => ∃ k : Nat, k ≤ m ∧ i = .int .i64 k ∧ Hid (ownB (L.take k) x = false) ∧ Below w.heap.size w wr) (fun i _ => m + 1 - (intOf i).toNat)
  case atStart => exact ⟨0, Nat.zero_le _, rfl, h0.out, Below.refl _ _⟩
  case round =>
    obtain ⟨k, hk, rfl, hF, hB⟩ := hrel
    have cr := cellK c3 hB
    by_cases hlt : k < m
    · obtain ⟨g, off, rfl, hcap, _, hg2, hcl⟩ := hC.out wr k hB hlt
      have d5 := hcl 5 (by omega)
      have d7 := hcl 7 (by omega)
      clear hcl
      have hlt' : (k : Int) < (m : Int) := by omega
      have hTk := Lib.hid (hT.out k hlt)
      have hAk := Lib.hid (hA.out k hlt)
      have hGk := hG.out k hlt
      generalize L.getD k default = f at *
      obtain ⟨⟨a1, a2, a3, a4, a5⟩, a6, a7, a8, a9⟩ := f
      obtain ⟨h1, h2, h3, h4, _⟩ := hGk
      simp only [objS] at *
      replace d5 : wr.drew.cell? ⟨g, off + k * 9 + 5, none⟩ = some (.int .i64 a6) := d5
      replace d7 : wr.drew.cell? ⟨g, off + k * 9 + 7, none⟩ = some (.int .i64 a8) := d7
      have cd : wr.drew.cell? ⟨B, 3, none⟩ = some (.slice (some ⟨g, off, none⟩) m cap) := cr
      have hwrap : IntKind.i64.wrap (a8 + 2) = a8 + 2 := by rw [IntKind.wrap_i64]; omega
      have hIn := in_any a6 (a8 + 2) x wr.drew (by unfold SB; simp only []; omega) (by omega) (by omega)
      go_wp2_with fail
      refine wp_region_tail (S := (fun w' => w' = wr.drew)) (n := 20) (by kernel_rfl) ?_ (fun hHeld hInv => ?_) (by decide)
      · (try dsimp only)
        all_goals rfl
      refine takeS 0 (v := ?_) (tailAt (by kernel_rfl)) hInv (by decide) rfl (by kernel_rfl) (by kernel_rfl) (by kernel_rfl) (fun _ _ _ h => h) (by rfl) (by assumption) ?_ (fun hInv2 => ?_)
      rotate_left
      · (intro w hSw; (try dsimp only at hSw); (subst hSw); go_simp <;> with_reducible rfl)
      clear hInv
      have hInv := hInv2
      clear hInv2
      try simp only [Act.put, List.setIfInBounds_toArray, List.set_cons_zero, List.set_cons_succ] at hInv ⊢
      refine takeS 1 (v := ?_) (tailAt (by kernel_rfl)) hInv (by decide) rfl (by kernel_rfl) (by kernel_rfl) (by kernel_rfl) (fun _ _ _ h => h) (by rfl) (by assumption) ?_ (fun hInv2 => ?_)
      rotate_left
      · (intro w hSw; (try dsimp only at hSw); (subst hSw); go_simp <;> with_reducible rfl)
      clear hInv
      have hInv := hInv2
      clear hInv2
      try simp only [Act.put, List.setIfInBounds_toArray, List.set_cons_zero, List.set_cons_succ] at hInv ⊢
      refine takeS 2 (v := ?_) (tailAt (by kernel_rfl)) hInv (by decide) rfl (by kernel_rfl) (by kernel_rfl) (by kernel_rfl) (fun _ _ _ h => h) (by rfl) (by assumption) ?_ (fun hInv2 => ?_)
      rotate_left
      · (intro w hSw; (try dsimp only at hSw); (subst hSw); go_simp <;> with_reducible rfl)
      clear hInv
      have hInv := hInv2
      clear hInv2
      try simp only [Act.put, List.setIfInBounds_toArray, List.set_cons_zero, List.set_cons_succ] at hInv ⊢
      refine takeS 3 (v := ?_) (tailAt (by kernel_rfl)) hInv (by decide) rfl (by kernel_rfl) (by kernel_rfl) (by kernel_rfl) (fun _ _ _ h => h) (by rfl) (by assumption) ?_ (fun hInv2 => ?_)
      rotate_left
      · (intro w hSw; (try dsimp only at hSw); (subst hSw); go_simp <;> with_reducible rfl)
      clear hInv
      have hInv := hInv2
      clear hInv2
      try simp only [Act.put, List.setIfInBounds_toArray, List.set_cons_zero, List.set_cons_succ] at hInv ⊢
      refine takeS 4 (v := ?_) (tailAt (by kernel_rfl)) hInv (by decide) rfl (by kernel_rfl) (by kernel_rfl) (by kernel_rfl) (fun _ _ _ h => h) (by rfl) (by assumption) ?_ (fun hInv2 => ?_)
      rotate_left
      · (intro w hSw; (try dsimp only at hSw); (subst hSw); go_simp <;> with_reducible rfl)
      clear hInv
      have hInv := hInv2
      clear hInv2
      try simp only [Act.put, List.setIfInBounds_toArray, List.set_cons_zero, List.set_cons_succ] at hInv ⊢
      refine takeS 5 (v := ?_) (tailAt (by kernel_rfl)) hInv (by decide) rfl (by kernel_rfl) (by kernel_rfl) (by kernel_rfl) (fun _ _ _ h => h) (by rfl) (by assumption) ?_ (fun hInv2 => ?_)
      rotate_left
      · (intro w hSw; (try dsimp only at hSw); (subst hSw); go_simp <;> with_reducible rfl)
      clear hInv
      have hInv := hInv2
      clear hInv2
      try simp only [Act.put, List.setIfInBounds_toArray, List.set_cons_zero, List.set_cons_succ] at hInv ⊢
      refine takeS 6 (v := ?_) (tailAt (by kernel_rfl)) hInv (by decide) rfl (by kernel_rfl) (by kernel_rfl) (by kernel_rfl) (fun _ _ _ h => h) (by rfl) (by assumption) ?_ (fun hInv2 => ?_)
      rotate_left
      · (intro w hSw; (try dsimp only at hSw); (subst hSw); go_simp <;> with_reducible rfl)
      clear hInv
      have hInv := hInv2
      clear hInv2
      try simp only [Act.put, List.setIfInBounds_toArray, List.set_cons_zero, List.set_cons_succ] at hInv ⊢
      refine takeS 7 (v := ?_) (tailAt (by kernel_rfl)) hInv (by decide) rfl (by kernel_rfl) (by kernel_rfl) (by kernel_rfl) (fun _ _ _ h => h) (by rfl) (by assumption) ?_ (fun hInv2 => ?_)
      rotate_left
      · (intro w hSw; (try dsimp only at hSw); (subst hSw); go_simp <;> with_reducible rfl)
      clear hInv
      have hInv := hInv2
      clear hInv2
      try simp only [Act.put, List.setIfInBounds_toArray, List.set_cons_zero, List.set_cons_succ] at hInv ⊢
      refine takeS 8 (v := ?_) (tailAt (by kernel_rfl)) hInv (by decide) rfl (by kernel_rfl) (by kernel_rfl) (by kernel_rfl) (fun _ _ _ h => h) (by rfl) (by assumption) ?_ (fun hInv2 => ?_)
      rotate_left
      · (intro w hSw; (try dsimp only at hSw); (subst hSw); go_simp <;> with_reducible rfl)
      clear hInv
      have hInv := hInv2
      clear hInv2
      try simp only [Act.put, List.setIfInBounds_toArray, List.set_cons_zero, List.set_cons_succ] at hInv ⊢
      refine takeS 9 (v := ?_) (tailAt (by kernel_rfl)) hInv (by decide) rfl (by kernel_rfl) (by kernel_rfl) (by kernel_rfl) (fun _ _ _ h => h) (by rfl) (by assumption) ?_ (fun hInv2 => ?_)
      rotate_left
      · (intro w hSw; (try dsimp only at hSw); (subst hSw); go_simp <;> with_reducible rfl)
      clear hInv
      have hInv := hInv2
      clear hInv2
      try simp only [Act.put, List.setIfInBounds_toArray, List.set_cons_zero, List.set_cons_succ] at hInv ⊢
      refine takeS 10 (v := ?_) (tailAt (by kernel_rfl)) hInv (by decide) rfl (by kernel_rfl) (by kernel_rfl) (by kernel_rfl) (fun _ _ _ h => h) (by rfl) (by assumption) ?_ (fun hInv2 => ?_)
      rotate_left
      · (intro w hSw; (try dsimp only at hSw); (subst hSw); go_simp <;> with_reducible rfl)
      clear hInv
      have hInv := hInv2
      clear hInv2
      try simp only [Act.put, List.setIfInBounds_toArray, List.set_cons_zero, List.set_cons_succ] at hInv ⊢
      refine takeS 11 (v := ?_) (tailAt (by kernel_rfl)) hInv (by decide) rfl (by kernel_rfl) (by kernel_rfl) (by kernel_rfl) (fun _ _ _ h => h) (by rfl) (by assumption) ?_ (fun hInv2 => ?_)
      rotate_left
      · (intro w hSw; (try dsimp only at hSw); (subst hSw); go_simp <;> with_reducible rfl)
      clear hInv
      have hInv := hInv2
      clear hInv2
      try simp only [Act.put, List.setIfInBounds_toArray, List.set_cons_zero, List.set_cons_succ] at hInv ⊢
      refine takeS 12 (v := ?_) (tailAt (by kernel_rfl)) hInv (by decide) rfl (by kernel_rfl) (by kernel_rfl) (by kernel_rfl) (fun _ _ _ h => h) (by rfl) (by assumption) ?_ (fun hInv2 => ?_)
      rotate_left
      · (intro w hSw; (try dsimp only at hSw); (subst hSw); go_simp <;> with_reducible rfl)
      clear hInv
      have hInv := hInv2
      clear hInv2
      try simp only [Act.put, List.setIfInBounds_toArray, List.set_cons_zero, List.set_cons_succ] at hInv ⊢
      refine takeS 13 (v := ?_) (tailAt (by kernel_rfl)) hInv (by decide) rfl (by kernel_rfl) (by kernel_rfl) (by kernel_rfl) (fun _ _ _ h => h) (by rfl) (by assumption) ?_ (fun hInv2 => ?_)
      rotate_left
      · (intro w hSw; (try dsimp only at hSw); (subst hSw); go_simp <;> with_reducible rfl)
      clear hInv
      have hInv := hInv2
      clear hInv2
      try simp only [Act.put, List.setIfInBounds_toArray, List.set_cons_zero, List.set_cons_succ] at hInv ⊢
      refine takeS 14 (v := ?_) (tailAt (by kernel_rfl)) hInv (by decide) rfl (by kernel_rfl) (by kernel_rfl) (by kernel_rfl) (fun _ _ _ h => h) (by rfl) (by assumption) ?_ (fun hInv2 => ?_)
      rotate_left
      · (intro w hSw; (try dsimp only at hSw); (subst hSw); go_simp <;> with_reducible rfl)
      clear hInv
      have hInv := hInv2
      clear hInv2
      try simp only [Act.put, List.setIfInBounds_toArray, List.set_cons_zero, List.set_cons_succ] at hInv ⊢
      refine takeS 15 (v := ?_) (tailAt (by kernel_rfl)) hInv (by decide) rfl (by kernel_rfl) (by kernel_rfl) (by kernel_rfl) (fun _ _ _ h => h) (by rfl) (by assumption) ?_ (fun hInv2 => ?_)
      rotate_left
      · (intro w hSw; (try dsimp only at hSw); (subst hSw); go_simp <;> with_reducible rfl)
      clear hInv
      have hInv := hInv2
      clear hInv2
      try simp only [Act.put, List.setIfInBounds_toArray, List.set_cons_zero, List.set_cons_succ] at hInv ⊢
      refine takeS 16 (v := ?_) (tailAt (by kernel_rfl)) hInv (by decide) rfl (by kernel_rfl) (by kernel_rfl) (by kernel_rfl) (fun _ _ _ h => h) (by rfl) (by assumption) ?_ (fun hInv2 => ?_)
      rotate_left
      · (intro w hSw; (try dsimp only at hSw); (subst hSw); go_simp <;> with_reducible rfl)
      clear hInv
      have hInv := hInv2
      clear hInv2
      try simp only [Act.put, List.setIfInBounds_toArray, List.set_cons_zero, List.set_cons_succ] at hInv ⊢
      refine takeS 17 (v := ?_) (tailAt (by kernel_rfl)) hInv (by decide) rfl (by kernel_rfl) (by kernel_rfl) (by kernel_rfl) (fun _ _ _ h => h) (by rfl) (by assumption) ?_ (fun hInv2 => ?_)
      rotate_left
      · (intro w hSw; (try dsimp only at hSw); (subst hSw); go_simp <;> with_reducible rfl)
      clear hInv
      have hInv := hInv2
      clear hInv2
      try simp only [Act.put, List.setIfInBounds_toArray, List.set_cons_zero, List.set_cons_succ] at hInv ⊢
      refine takeS 18 (v := ?_) (tailAt (by kernel_rfl)) hInv (by decide) rfl (by kernel_rfl) (by kernel_rfl) (by kernel_rfl) (fun _ _ _ h => h) (by rfl) (by assumption) ?_ (fun hInv2 => ?_)
      rotate_left
      · (intro w hSw; (try dsimp only at hSw); (subst hSw); go_simp <;> with_reducible rfl)
      clear hInv
      have hInv := hInv2
      clear hInv2
      try simp only [Act.put, List.setIfInBounds_toArray, List.set_cons_zero, List.set_cons_succ] at hInv ⊢
      refine takeS 19 (v := ?_) (tailAt (by kernel_rfl)) hInv (by decide) rfl (by kernel_rfl) (by kernel_rfl) (by kernel_rfl) (fun _ _ _ h => h) (by rfl) (by assumption) ?_ (fun hInv2 => ?_)
      rotate_left
      · (intro w hSw; (try dsimp only at hSw); (subst hSw); go_simp <;> with_reducible rfl)
      clear hInv
      have hInv := hInv2
      clear hInv2
      try simp only [Act.put, List.setIfInBounds_toArray, List.set_cons_zero, List.set_cons_succ] at hInv ⊢
      refine lastS 20 rfl (by decide) (by kernel_rfl) (fun K hK => ?_)
      go_simp
      (with_reducible refine hIn.mono ?_; clear hwrap; rintro e w8 ⟨rfl, hb⟩; have hB8 := hB.drew.trans (hb.mono hB.drew.size); clear hIn hb)
      refine hK.out _ _ ?_
      clear hK K
      try simp only [Act.put, List.setIfInBounds_toArray, List.set_cons_zero, List.set_cons_succ]
      refine lastS 21 rfl (by decide) (by kernel_rfl) (fun K hK => ?_)
      go_simp
      refine hK.out _ _ ?_
      clear hK K
      try simp only [Act.put, List.setIfInBounds_toArray, List.set_cons_zero, List.set_cons_succ]
      refine wpAnyS_done (by kernel_rfl) ?_ _
      cases hi : inB (a6, a8 + 2) x with
      | true =>
        have hR := Lib.hid (hAk.out hi)
        clear hTk hAk
        go_wp2_with fail
        go_ret
        exact ⟨by rw [hR.out]; rfl, hB8⟩
      | false =>
        have hF2 := Lib.hid (show ownB (L.take (k + 1)) x = false from by rw [hTk.out, hF.out, hi]; rfl)
        clear hTk hAk
        go_wp2_with fail
        go_roundw
        case rel => exact ⟨k + 1, by omega, by go_num, hF2.out, hB8⟩
        case measure => simp [intOf]; omega
    · obtain rfl : k = m := by omega
      have hR := Lib.hid (show ownB L x = false from by rw [← hE.out]; exact hF.out)
      go_wp2_with fail
      go_ret
      exact ⟨by rw [hR.out]; rfl, hB⟩

set_option maxHeartbeats 1000000 in
theorem refFreed_any (B : Nat) (G : Nat → Prop) (r : Rf) (x : Int) (w : World) (h : RfAt w B G r) (hlen : r.gone.length ≤ 1000000) :
    Calls Try.prog 70 #[.pointer (some ⟨B, 0, none⟩), .int .i64 x] w fun e w' => e = .returned (.bool (decide (x ∈ r.gone))) ∧ Below w.heap.size w w' := by
  obtain ⟨v2, v3, v4, hR⟩ := h
  have c4 := hR.cells.1.2.2.2.2.1
  obtain ⟨n, hn⟩ : ∃ m, r.gone.length = m := ⟨_, rfl⟩
  obtain ⟨A, cap, rfl, hC⟩ := (hR.gone.el iE_len).form hn
  generalize r.gone = l at *
  have hT := Lib.hid (fun (h : ∀ j, j < n → l.getD j default ≠ x) => show decide (x ∈ l) = false from decide_eq_false (mem_none (fun j hj => h j (by omega))))
  have hH := Lib.hid (fun k (h : k < n) (hw : l.getD k default = x) => show decide (x ∈ l) = true from decide_eq_true (mem_at (by omega) hw))
  replace hC := Lib.hid hC
  have hlen' : n ≤ 1000000 := by omega
  clear hlen hR hn
  go_enter Try.func70, Try.ntmps70
  go_wp2_with fail
  go_loopw [5] (fun i wr => ∃ k : Nat, k ≤ n ∧ i = .int .i64 k ∧ Hid (∀ j, j < k → l.getD j default ≠ x) ∧ Below w.heap.size w wr) (fun i _ => n + 1 - (intOf i).toNat)
  case atStart => exact ⟨0, Nat.zero_le _, rfl, (fun j hj => by omega), Below.refl _ _⟩
  case round =>
    obtain ⟨k, hk, rfl, hF, hB⟩ := hrel
    have cr := cellK c4 hB
    by_cases hlt : k < n
    · obtain ⟨g, off, rfl, hcap, _, hg, hcl⟩ := hC.out wr k hB hlt
      have c0 := hcl 0 (by omega)
      clear hcl
      rw [Nat.add_zero, Nat.mul_one] at c0
      have hlt' : (k : Int) < (n : Int) := by omega
      have hH2 := Lib.hid (hH.out k hlt)
      have hF2 := Lib.hid (fun (h : l.getD k default ≠ x) j (hj : j < k + 1) => show l.getD j default ≠ x from by
        by_cases e : j = k
        · subst e; exact h
        · exact hF.out j (by omega))
      generalize l.getD k default = y at *
      replace c0 : wr.cell? ⟨g, off + k, none⟩ = some (.int .i64 y) := c0
      by_cases q : y = x
      · subst q
        have hR := Lib.hid (hH2.out rfl)
        have t1 : (y == y) = true := by simp
        clear hH2 hF2
        go_wp2_with fail
        go_ret
        exact ⟨by rw [hR.out]; rfl, hB⟩
      · have hF3 := Lib.hid (hF2.out q)
        have t1 : (y == x) = false := by rw [beq_eq_false_iff_ne]; exact q
        clear hH2 hF2
        go_wp2_with fail
        go_roundw
        case rel => exact ⟨k + 1, by omega, by go_num, hF3.out, hB⟩
        case measure => simp [intOf]; omega
    · have hR := Lib.hid (hT.out (fun j hj => hF.out j (by omega)))
      obtain rfl : k = n := by omega
      go_wp2_with fail
      go_ret
      exact ⟨by rw [hR.out]; rfl, hB⟩

/-- the first one at a place -/
def lookF : List Fx → Int → Option Fx
  | [], _ => none
  | f :: L, x => if f.2.1 = x then some f else lookF L x
theorem lookF_none : ∀ {L : List Fx} {x : Int}, (∀ j, j < L.length → (L.getD j default).2.1 ≠ x) → lookF L x = none
  | [], _, _ => rfl
  | f :: L, x, h => by
    have h0 : f.2.1 ≠ x := h 0 (by simp)
    show (if f.2.1 = x then some f else lookF L x) = none
    rw [if_neg h0, lookF_none (fun j hj => h (j + 1) (by simpa using hj))]
theorem lookF_some : ∀ {L : List Fx} {x : Int} {k : Nat}, k < L.length → (L.getD k default).2.1 = x → (∀ j, j < k → (L.getD j default).2.1 ≠ x) → lookF L x = some (L.getD k default)
  | [], _, k, h, _, _ => by simp at h
  | f :: L, x, 0, _, e, _ => by
    have h0 : f.2.1 = x := e
    show (if f.2.1 = x then some f else lookF L x) = _
    rw [if_pos h0]; rfl
  | f :: L, x, k + 1, h, e, hn => by
    have h0 : f.2.1 ≠ x := hn 0 (by omega)
    show (if f.2.1 = x then some f else lookF L x) = _
    rw [if_neg h0]
    exact lookF_some (k := k) (by simpa using h) e (fun j hj => hn (j + 1) (by omega))
set_option maxHeartbeats 1000000 in
theorem refFind_any (B : Nat) (G : Nat → Prop) (r : Rf) (x : Int) (w : World) (h : RfAt w B G r) (hlen : r.fresh.length ≤ 1000000) :
    Calls Try.prog 91 #[.pointer (some ⟨B, 0, none⟩), .int .i64 x] w fun e w' => ((e = .returned (.int .i64 (-1)) ∧ lookF r.fresh x = none) ∨ ∃ k : Nat, e = .returned (.int .i64 k) ∧ k < r.fresh.length ∧ lookF r.fresh x = some (r.fresh.getD k default)) ∧ Below w.heap.size w w' := by
  obtain ⟨v2, v3, v4, hR⟩ := h
  have c3 := hR.cells.1.2.2.2.1
  obtain ⟨n, hn⟩ : ∃ m, r.fresh.length = m := ⟨_, rfl⟩
  obtain ⟨A, cap, rfl, hC⟩ := (hR.fresh.el fE_len).form hn
  generalize r.fresh = l at *
  have hT := Lib.hid (fun (h : ∀ j, j < n → (l.getD j default).2.1 ≠ x) => lookF_none (L := l) (fun j hj => h j (by omega)))
  have hH := Lib.hid (fun k (h : k < n) hw hj => lookF_some (L := l) (x := x) (k := k) (by omega) hw hj)
  replace hC := Lib.hid hC
  have hlen' : n ≤ 1000000 := by omega
  replace hn := Lib.hid hn
  clear hlen hR
  go_enter Try.func91, Try.ntmps91
  go_wp2_with fail
  go_loopw [5] (fun i wr => ∃ k : Nat, k ≤ n ∧ i = .int .i64 k ∧ Hid (∀ j, j < k → (l.getD j default).2.1 ≠ x) ∧ Below w.heap.size w wr) (fun i _ => n + 1 - (intOf i).toNat)
  case atStart => exact ⟨0, Nat.zero_le _, rfl, (fun j hj => by omega), Below.refl _ _⟩
  case round =>
    obtain ⟨k, hk, rfl, hF, hB⟩ := hrel
    have cr := cellK c3 hB
    by_cases hlt : k < n
    · obtain ⟨g, off, rfl, hcap, _, hg, hcl⟩ := hC.out wr k hB hlt
      have d5 := hcl 5 (by omega)
      clear hcl
      have hlt' : (k : Int) < (n : Int) := by omega
      have hH2 := Lib.hid (hH.out k hlt)
      have hF2 := Lib.hid (fun (h : (l.getD k default).2.1 ≠ x) j (hj : j < k + 1) => show (l.getD j default).2.1 ≠ x from by
        by_cases e : j = k
        · subst e; exact h
        · exact hF.out j (by omega))
      obtain ⟨f, hf⟩ : ∃ f, l.getD k default = f := ⟨_, rfl⟩
      rw [hf] at hH2 hF2 d5
      replace hf := Lib.hid hf
      obtain ⟨⟨a1, a2, a3, a4, a5⟩, a6, a7, a8, a9⟩ := f
      replace d5 : wr.cell? ⟨g, off + k * 9 + 5, none⟩ = some (.int .i64 a6) := d5
      simp only [] at hH2 hF2
      by_cases q : a6 = x
      · subst q
        have hR := Lib.hid (hH2.out rfl hF.out)
        have t1 : (a6 == a6) = true := by simp
        clear hH2 hF2
        go_wp2_with fail
        go_ret
        exact ⟨.inr ⟨k, rfl, by rw [hn.out]; exact hlt, by rw [hf.out]; exact hR.out⟩, hB⟩
      · have hF3 := Lib.hid (hF2.out q)
        have t1 : (a6 == x) = false := by rw [beq_eq_false_iff_ne]; exact q
        clear hH2 hF2
        go_wp2_with fail
        go_roundw
        case rel => exact ⟨k + 1, by omega, by go_num, hF3.out, hB⟩
        case measure => simp [intOf]; omega
    · have hR := Lib.hid (hT.out (fun j hj => hF.out j (by omega)))
      obtain rfl : k = n := by omega
      go_wp2_with fail
      go_ret
      exact ⟨.inl ⟨rfl, hR.out⟩, hB⟩
end Go.Proofs.Ytcemiclbeocnjaa
