/-
  Layer 20 (tx): what a call may change; where a transaction lies in memory.
-/
import Derived.Test.YtcemiclbeocnjaaTk2
import Derived.Test.YtcemiclbeocnjaaTSpan6
set_option linter.unusedVariables false
set_option linter.unusedSimpArgs false
namespace Go.Proofs.Ytcemiclbeocnjaa
open Go.RowKit Go.ChangeShapes Go.WideShapes Go.Deep Go.Maps

/-- numbers -/
def iE (x : Int) : List Value := [.int .i64 x]
theorem iE_len (x : Int) : (iE x).length = 1 := rfl
theorem infoInt : (Try.prog.info? 3).map (fun i => (i.zero, i.size, i.bytes)) = some (some (.int .i64 0), 1, 8) := by kernel_rfl
theorem iT : ElT Try.prog 43 3 1 8 iE :=
  ⟨Try.underlying43, by obtain ⟨i0, h1, h2, h3, h4⟩ := info_parts infoInt; exact ⟨i0, _, h1, h2, h3, h4, rfl⟩, iE_len, fun x u hu => by simp only [iE, List.mem_cons, List.not_mem_nil, or_false] at hu; subst hu; rfl, by decide, by decide⟩

/-- blocks of S, and new ones, alone may have changed -/
structure Chg (S : Nat → Prop) (w w' : World) : Prop where
  os : w'.os = w.os
  tape : w'.tape = w.tape
  output : w'.output = w.output
  size : w.heap.size ≤ w'.heap.size
  block : ∀ k, k < w.heap.size → ¬ S k → w'.heap[k]? = w.heap[k]?
theorem Chg.refl (S : Nat → Prop) (w : World) : Chg S w w := ⟨rfl, rfl, rfl, Nat.le_refl _, fun _ _ _ => rfl⟩
theorem Chg.trans {S S2 : Nat → Prop} {a b c : World} (h : Chg S a b) (k : Chg S2 b c) (hs : ∀ j, S2 j → S j ∨ a.heap.size ≤ j) : Chg S a c :=
  ⟨k.os.trans h.os, k.tape.trans h.tape, k.output.trans h.output, Nat.le_trans h.size k.size, fun j hj hn => (k.block j (Nat.lt_of_lt_of_le hj h.size) (fun q => by rcases hs j q with q | q; exact hn q; omega)).trans (h.block j hj hn)⟩
theorem Chg.of_below (S : Nat → Prop) {w w' : World} (h : Below w.heap.size w w') : Chg S w w' := ⟨h.os, h.tape, h.output, h.size, fun k hk _ => h.block k hk⟩
theorem Chg.of_grown {S : Nat → Prop} {w w' : World} {row : Option Nat} (h : w.grownBy w' row) (hr : ∀ k, row = some k → S k ∨ w.heap.size ≤ k) : Chg S w w' :=
  ⟨h.os, h.tape, h.output, h.size, fun k hk hn => h.block k hk (fun e => by rcases hr k e.symm with q | q; exact hn q; omega)⟩
theorem size_setCell (w : World) (a : Addr) (v : Value) : (w.setCell a v).heap.size = w.heap.size := by simp [World.setCell]
theorem Chg.setCell {S : Nat → Prop} (w : World) (b o : Nat) (v : Value) (h : S b) : Chg S w (w.setCell ⟨b, o, none⟩ v) :=
  ⟨rfl, rfl, rfl, by rw [size_setCell]; exact Nat.le_refl _, fun k hk hn => Below.heap_setCell _ _ _ _ (fun e => hn (by simp only [] at e; rw [e]; exact h))⟩
theorem Chg.below {S : Nat → Prop} {w w' : World} {N : Nat} (h : Chg S w w') (hN : ∀ k, S k → N ≤ k) (hN2 : N ≤ w.heap.size) : Below N w w' :=
  ⟨h.os, h.tape, h.output, h.size, fun k hk => h.block k (by omega) (fun q => by have := hN k q; omega)⟩
/-- a list of the call's own stays -/
theorem OwnE.chg {α : Type} {e : TypeId} {sz : Nat} {en : α → List Value} {S : Nat → Prop} {w w1 : World} {base : Nat} {v : Value} {l : List α} (h : OwnE e sz en w base v l) (hc : Chg S w w1) (hn : ∀ k, v.ownBlock = some k → ¬ S k) : OwnE e sz en w1 base v l := by
  refine ⟨h.1, ?_⟩
  rcases h.2 with h2 | ⟨g, cap, cur, hv, hbg, hg, h1, h2, h3, h4⟩
  · exact .inl h2
  · exact .inr ⟨g, cap, cur, hv, hbg, by rw [hc.block g (Array.getElem?_eq_some_iff.1 hg).1 (hn g (by rw [hv]; rfl))]; exact hg, h1, h2, h3, h4⟩
theorem OwnSp.chg {S : Nat → Prop} {w w1 : World} {base : Nat} {v : Value} {l : List Sp} (h : OwnSp w base v l) (hc : Chg S w w1) (hn : ∀ k, v.ownBlock = some k → ¬ S k) : OwnSp w1 base v l := by
  refine ⟨h.1, ?_⟩
  rcases h.2 with h2 | ⟨g, cap, cur, hv, hbg, hg, h1, h2, h3, h4⟩
  · exact .inl h2
  · exact .inr ⟨g, cap, cur, hv, hbg, by rw [hc.block g (Array.getElem?_eq_some_iff.1 hg).1 (hn g (by rw [hv]; rfl))]; exact hg, h1, h2, h3, h4⟩
theorem MapF.chg {S : Nat → Prop} {w w' : World} {M n : Nat} {g : Gf} (h : MapF w M n g) (hc : Chg S w w') (hM : ¬ S M) : MapF w' M n g := by
  obtain ⟨D, ⟨es, c, hb, Ft⟩, hp⟩ := h
  exact ⟨D, ⟨es, c, (hc.block M (Array.getElem?_eq_some_iff.1 hb).1 hM).trans hb, Ft⟩, hp⟩
theorem row_ne {w : World} {base sz : Nat} {e t : TypeId} {v : Value} {n : Nat} {xs : List Value} {B : Nat} {cs : Array Value} {f : Nat × Nat} (h : w.ownsRow base e sz v n xs) (hb : w.heap[B]? = some (.cells cs t f)) (hne : t ≠ e) : ∀ k, v.ownBlock = some k → k ≠ B := by
  rintro k hk rfl
  rcases h.2 with ⟨rfl, _⟩ | ⟨g, cap, cur, rfl, _, hg, _⟩
  · cases hk
  · cases hk
    rw [hb] at hg
    cases hg
    exact hne rfl
theorem row_ne_map {w : World} {base sz : Nat} {e : TypeId} {v : Value} {n M n2 : Nat} {xs : List Value} {g : Gf} (h : w.ownsRow base e sz v n xs) (hb : MapF w M n2 g) : ∀ k, v.ownBlock = some k → k ≠ M := by
  rintro k hk rfl
  obtain ⟨D, ⟨es, c, hbb, Ft⟩, hp⟩ := hb
  rcases h.2 with ⟨rfl, _⟩ | ⟨g, cap, cur, rfl, _, hg, _⟩
  · cases hk
  · cases hk
    rw [hbb] at hg
    cases hg
theorem MapF.ne {w : World} {B M n : Nat} {g : Gf} {cs : Array Value} {t : TypeId} {f : Nat × Nat} (h : MapF w M n g) (hb : w.heap[B]? = some (.cells cs t f)) : M ≠ B := by
  rintro rfl
  obtain ⟨D, ⟨es, c, hbb, Ft⟩, hp⟩ := h
  rw [hb] at hbb
  cases hbb
theorem cell_blk {w : World} {B o : Nat} {cs : Array Value} {t : TypeId} {v : Value} (h : w.heap[B]? = some (.cells cs t (0, 0))) (ho : cs[o]? = some v) : w.cell? ⟨B, o, none⟩ = some v ∧ w.frozen? ⟨B, o, none⟩ = false := by
  constructor
  · simp [World.cell?, h, ho]
  · simp [World.frozen?, h]
theorem set_blk {w : World} {B o : Nat} {cs : Array Value} {t : TypeId} {v : Value} (h : w.heap[B]? = some (.cells cs t (0, 0))) : (w.setCell ⟨B, o, none⟩ v).heap[B]? = some (.cells (cs.setIfInBounds o v) t (0, 0)) := by
  obtain ⟨hlt, hk⟩ := Array.getElem?_eq_some_iff.1 h
  show (w.heap.modify B _)[B]? = _
  rw [Array.getElem?_eq_getElem (by rw [Array.size_modify]; exact hlt), Array.getElem_modify_self, hk]
  rfl

/-- a transaction: what was noted, is fresh (of how many at most), how deep it is, whether it is spoilt, what is gone, the root, whether it was named -/
structure St where
  noted : List Sp
  fresh : Gf
  n : Nat
  depth : Int
  bad : Bool
  gone : List Int
  root : Int
  named : Bool
def st0 : St := ⟨[], fun _ => none, 0, 0, false, [], 0, false⟩
def txc (v0 : Value) (M : Nat) (v4 : Value) (s : St) : Array Value := #[v0, .map (some M), .int .i64 s.depth, .bool s.bad, v4, .int .i64 s.root, .bool s.named]
/-- it lies in block B; F: the blocks that it may change -/
structure TxR (w : World) (B M : Nat) (v0 v4 : Value) (F : Nat → Prop) (s : St) : Prop where
  blk : w.heap[B]? = some (.cells (txc v0 M v4 s) 109 (0, 0))
  noted : OwnSp w 0 v0 s.noted
  fresh : MapF w M s.n s.fresh
  gone : OwnE 3 1 iE w 0 v4 s.gone
  fB : F B
  fM : F M
  f0 : ∀ k, v0.ownBlock = some k → F k
  f4 : ∀ k, v4.ownBlock = some k → F k
  lt : ∀ k, F k → k < w.heap.size
def TxAt (w : World) (B : Nat) (F : Nat → Prop) (s : St) : Prop := ∃ M v0 v4, TxR w B M v0 v4 F s
theorem TxR.chg {S F : Nat → Prop} {w w' : World} {B M : Nat} {v0 v4 : Value} {s : St} (h : TxR w B M v0 v4 F s) (hc : Chg S w w') (hn : ∀ k, F k → ¬ S k) : TxR w' B M v0 v4 F s :=
  ⟨(hc.block B (h.lt _ h.fB) (hn _ h.fB)).trans h.blk, h.noted.chg hc (fun k e => hn _ (h.f0 k e)), h.fresh.chg hc (hn _ h.fM), h.gone.chg hc (fun k e => hn _ (h.f4 k e)), h.fB, h.fM, h.f0, h.f4, fun k e => Nat.lt_of_lt_of_le (h.lt k e) hc.size⟩
theorem TxAt.chg {S F : Nat → Prop} {w w' : World} {B : Nat} {s : St} (h : TxAt w B F s) (hc : Chg S w w') (hn : ∀ k, F k → ¬ S k) : TxAt w' B F s := by
  obtain ⟨M, v0, v4, h⟩ := h
  exact ⟨M, v0, v4, h.chg hc hn⟩
theorem TxAt.keep {F : Nat → Prop} {w w' : World} {B : Nat} {s : St} (h : TxAt w B F s) (hb : Below w.heap.size w w') : TxAt w' B F s := h.chg (Chg.of_below (fun _ => False) hb) (fun _ _ q => q)
theorem TxAt.lt {F : Nat → Prop} {w : World} {B : Nat} {s : St} (h : TxAt w B F s) : ∀ k, F k → k < w.heap.size := by
  obtain ⟨M, v0, v4, h⟩ := h
  exact h.lt
theorem TxAt.fB {F : Nat → Prop} {w : World} {B : Nat} {s : St} (h : TxAt w B F s) : F B := by
  obtain ⟨M, v0, v4, h⟩ := h
  exact h.fB
theorem TxR.cells {F : Nat → Prop} {w : World} {B M : Nat} {v0 v4 : Value} {s : St} (h : TxR w B M v0 v4 F s) :
    (w.cell? ⟨B, 0, none⟩ = some v0 ∧ w.cell? ⟨B, 1, none⟩ = some (.map (some M)) ∧ w.cell? ⟨B, 2, none⟩ = some (.int .i64 s.depth) ∧ w.cell? ⟨B, 3, none⟩ = some (.bool s.bad) ∧ w.cell? ⟨B, 4, none⟩ = some v4 ∧ w.cell? ⟨B, 5, none⟩ = some (.int .i64 s.root) ∧ w.cell? ⟨B, 6, none⟩ = some (.bool s.named)) ∧ ∀ o, w.frozen? ⟨B, o, none⟩ = false := by
  refine ⟨⟨(cell_blk h.blk rfl).1, (cell_blk h.blk rfl).1, (cell_blk h.blk rfl).1, (cell_blk h.blk rfl).1, (cell_blk h.blk rfl).1, (cell_blk h.blk rfl).1, (cell_blk h.blk rfl).1⟩, fun o => ?_⟩
  simp [World.frozen?, h.blk]
/-- one cell that is no list and no map is another one -/
theorem TxR.put {F : Nat → Prop} {w : World} {B M o : Nat} {v0 v4 u : Value} {s s' : St} (h : TxR w B M v0 v4 F s) (hn : s'.noted = s.noted) (hf : s'.fresh = s.fresh) (hm : s'.n = s.n) (hg : s'.gone = s.gone) (hu : (txc v0 M v4 s).setIfInBounds o u = txc v0 M v4 s') : TxR (w.setCell ⟨B, o, none⟩ u) B M v0 v4 F s' := by
  have hc := Chg.setCell (S := fun k => k = B) w B o u rfl
  refine ⟨by rw [set_blk h.blk, hu], by rw [hn]; exact h.noted.chg hc (row_ne h.noted h.blk (by decide)), by rw [hf, hm]; exact h.fresh.chg hc (h.fresh.ne h.blk), by rw [hg]; exact h.gone.chg hc (row_ne h.gone h.blk (by decide)), h.fB, h.fM, h.f0, h.f4, fun k e => by rw [size_setCell]; exact h.lt k e⟩
/-- what was noted is another list, that is new -/
theorem TxR.note {F : Nat → Prop} {w : World} {B M b : Nat} {v0 v4 u : Value} {s : St} {l : List Sp} (h : TxR w B M v0 v4 F s) (hu : OwnSp w b u l) : TxR (w.setCell ⟨B, 0, none⟩ u) B M u v4 (fun k => F k ∨ u.ownBlock = some k) { s with noted := l } := by
  have hc := Chg.setCell (S := fun k => k = B) w B 0 u rfl
  refine ⟨by rw [set_blk h.blk]; rfl, (hu.mono (Nat.zero_le _)).chg hc (row_ne hu h.blk (by decide)), h.fresh.chg hc (h.fresh.ne h.blk), h.gone.chg hc (row_ne h.gone h.blk (by decide)), .inl h.fB, .inl h.fM, fun k e => .inr e, fun k e => .inl (h.f4 k e), fun k e => ?_⟩
  rw [size_setCell]
  rcases e with e | e
  · exact h.lt k e
  · exact (hu.lt k e).2
/-- what is gone is another list -/
theorem TxR.goneTo {F : Nat → Prop} {w w' : World} {B M : Nat} {v0 v4 u : Value} {s : St} {l : List Int} (h : TxR w B M v0 v4 F s) (hg : w.grownBy w' v4.ownBlock) (hu : OwnE 3 1 iE w' 0 u l) : TxR (w'.setCell ⟨B, 4, none⟩ u) B M v0 u (fun k => F k ∨ u.ownBlock = some k) { s with gone := l } := by
  have h4 := row_ne h.gone h.blk (by decide)
  have hb' : w'.heap[B]? = some (.cells (txc v0 M v4 s) 109 (0, 0)) := (hg.block B (h.lt _ h.fB) (fun e => h4 B e.symm rfl)).trans h.blk
  have hc := Chg.setCell (S := fun k => k = B) w' B 4 u rfl
  have hc0 : Chg (fun k => v4.ownBlock = some k) w w' := Chg.of_grown hg (fun k e => .inl e)
  have hn' : OwnSp w' 0 v0 s.noted := h.noted.chg hc0 (fun k e q => by
    rcases h.noted.2 with ⟨rfl, _⟩ | ⟨g, cap, cur, rfl, _, hgb, _⟩
    · cases e
    · cases e
      exact row_ne h.gone hgb (by decide) _ q rfl)
  have hm' : MapF w' M s.n s.fresh := h.fresh.chg hc0 (fun q => row_ne_map h.gone h.fresh _ q rfl)
  refine ⟨by rw [set_blk hb']; rfl, hn'.chg hc (row_ne hn' hb' (by decide)), hm'.chg hc (hm'.ne hb'), hu.chg hc (row_ne hu hb' (by decide)), .inl h.fB, .inl h.fM, fun k e => .inl (h.f0 k e), fun k e => .inr e, fun k e => ?_⟩
  rw [size_setCell]
  rcases e with e | e
  · exact Nat.lt_of_lt_of_le (h.lt k e) hg.size
  · exact (hu.lt k e).2
theorem TxR.goneCell {F : Nat → Prop} {w w' : World} {B M : Nat} {v0 v4 : Value} {s : St} (h : TxR w B M v0 v4 F s) (hg : w.grownBy w' v4.ownBlock) : w'.cell? ⟨B, 4, none⟩ = some v4 ∧ w'.frozen? ⟨B, 4, none⟩ = false := by
  have h4 := row_ne h.gone h.blk (by decide)
  have hb' : w'.heap[B]? = some (.cells (txc v0 M v4 s) 109 (0, 0)) := (hg.block B (h.lt _ h.fB) (fun e => h4 B e.symm rfl)).trans h.blk
  exact cell_blk hb' rfl
theorem one_int (w : World) (x : Int) : EL 1 iE (w.alloc (.cells #[.int .i64 x] (3 : Nat))) (.slice (some ⟨w.heap.size, 0, none⟩) 1 1) [x] := (OwnE.lit 3 iE_len w [x] #[.int .i64 x] rfl (by simp)).el iE_len
/-- the map is another one, in its block -/
theorem TxR.mapTo {F : Nat → Prop} {w w' : World} {B M n : Nat} {v0 v4 : Value} {s : St} {g : Gf} (h : TxR w B M v0 v4 F s) (hg : w.grownBy w' (some M)) (hm : MapF w' M n g) : TxR w' B M v0 v4 F { s with fresh := g, n := n } := by
  have hc0 : Chg (fun k => k = M) w w' := Chg.of_grown hg (fun k e => .inl (by cases e; rfl))
  exact ⟨(hc0.block B (h.lt _ h.fB) (fun e => h.fresh.ne h.blk e.symm)).trans h.blk, h.noted.chg hc0 (row_ne_map h.noted h.fresh), hm, h.gone.chg hc0 (row_ne_map h.gone h.fresh), h.fB, h.fM, h.f0, h.f4, fun k e => Nat.lt_of_lt_of_le (h.lt k e) hg.size⟩
end Go.Proofs.Ytcemiclbeocnjaa
