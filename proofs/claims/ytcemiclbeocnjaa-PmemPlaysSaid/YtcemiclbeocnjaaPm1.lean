/-
  Layer 3 (pmem): a map of words; a row of words that is written; where a device lies in memory.
-/
import Derived.Test.YtcemiclbeocnjaaGw
import Derived.Test.YtcemiclbeocnjaaTk6
set_option linter.unusedVariables false
set_option linter.unusedSimpArgs false
namespace Go.Proofs.Ytcemiclbeocnjaa
open Go.RowKit Go.ChangeShapes Go.WideShapes Go.Deep Go.Maps Go.MapKept Go.ChangeMaps

theorem OwnU.set {w : World} {base g cap n i y : Nat} {I : List Nat} (h : OwnU w base (.slice (some ⟨g, 0, none⟩) n cap) I) (hn : I.length = n) (hi : i < n) : OwnU (w.setCell ⟨g, i, none⟩ (.int .u64 (y : Nat))) base (.slice (some ⟨g, 0, none⟩) n cap) (I.set i y) := by
  unfold OwnU at h ⊢
  rw [hn] at h
  rw [List.length_set, hn, List.map_set]
  exact (World.ownsRow.stored h i _).1
theorem OwnU.cell {w : World} {base g cap n i : Nat} {I : List Nat} (h : OwnU w base (.slice (some ⟨g, 0, none⟩) n cap) I) (hn : I.length = n) (hi : i < n) : w.cell? ⟨g, i, none⟩ = some (.int .u64 (I.getD i 0 : Nat)) ∧ w.frozen? ⟨g, i, none⟩ = false := by
  unfold OwnU at h
  rw [hn] at h
  refine ⟨?_, h.frozenAt _⟩
  rw [World.ownsRow.cellAt h i (by omega), List.getElem?_map, List.getElem?_eq_getElem (by omega), List.getD_eq_getElem?_getD, List.getElem?_eq_getElem (by omega)]
  rfl
theorem OwnU.form {w : World} {base : Nat} {v : Value} {I : List Nat} (h : OwnU w base v I) : ∃ A cap, v = .slice A I.length cap ∧ (0 < I.length → ∃ g, A = some ⟨g, 0, none⟩ ∧ base ≤ g ∧ g < w.heap.size) := by
  rcases h.2 with ⟨h, h0⟩ | ⟨g, cap, cur, h, hb, hg, _⟩
  · exact ⟨none, 0, by rw [h, h0], fun q => by omega⟩
  · exact ⟨_, _, h, fun _ => ⟨g, rfl, hb, (Array.getElem?_eq_some_iff.1 hg).1⟩⟩
theorem OwnU.chg {S : Nat → Prop} {w w1 : World} {base : Nat} {v : Value} {l : List Nat} (h : OwnU w base v l) (hc : Chg S w w1) (hn : ∀ k, v.ownBlock = some k → ¬ S k) : OwnU w1 base v l := by
  refine ⟨h.1, ?_⟩
  rcases h.2 with h2 | ⟨g, cap, cur, hv, hbg, hg, h1, h2, h3, h4⟩
  · exact .inl h2
  · exact .inr ⟨g, cap, cur, hv, hbg, by rw [hc.block g (Array.getElem?_eq_some_iff.1 hg).1 (hn g (by rw [hv]; rfl))]; exact hg, h1, h2, h3, h4⟩
theorem OwnU.lt {w : World} {base : Nat} {v : Value} {l : List Nat} (h : OwnU w base v l) : ∀ k, v.ownBlock = some k → base ≤ k ∧ k < w.heap.size := World.ownsRow.lt h

/-- how a word in a map reads -/
def uR (v : Value) : Option (DataW Unit × List MemPlace) :=
  match v with
  | .int .u64 a => some (.lit (.int .u64 a), [])
  | _ => none
theorem uR_mk (x : Nat) : uR (.int .u64 (x : Nat)) = some (.lit (.int .u64 (x : Nat)), []) := rfl
theorem uR_inv {v : Value} {z : DataW Unit × List MemPlace} (h : uR v = some z) : ∃ a, v = .int .u64 a ∧ z = (.lit (.int .u64 a), []) := by
  unfold uR at h
  split at h
  · cases h
    exact ⟨_, rfl, rfl⟩
  · cases h
theorem uzero (w : World) : (zeroValue 32).run Try.prog w = .ok (.int .u64 0) w := by kernel_rfl
/-- which word lies where -/
abbrev Gu := Int → Option Nat
structure PicU (D : DataW Unit) (g : Gu) : Prop where
  has : ∀ x, I64 x → Maps.has D (.int .i64 x) = (g x).isSome
  got : ∀ x (c : Nat), g x = some c → I64 x ∧ ∀ z, D.atKey (.int .i64 x) z = .lit (.int .u64 (c : Nat))
def putU (g : Gu) (k : Int) (f : Nat) : Gu := fun x => if x = k then some f else g x
def delU (g : Gu) (k : Int) : Gu := fun x => if x = k then none else g x
theorem PicU.nil : PicU (.map []) (fun _ => none) := ⟨fun x _ => rfl, fun x c h => by cases h⟩
theorem PicU.put {D : DataW Unit} {g : Gu} {k : Int} {f : Nat} (h : PicU D g) (hm : IsMap D) (hk : I64 k) : PicU (D.put (.int .i64 k) (.lit (.int .u64 (f : Nat)))) (putU g k f) := by
  refine ⟨fun x hx => ?_, fun x c hc => ?_⟩
  · unfold putU
    by_cases e : x = k
    · subst e; rw [if_pos rfl, has_put_same hm (kint _)]; rfl
    · rw [if_neg e, has_put_other (lit_ne e), h.has x hx]
  · unfold putU at hc
    by_cases e : x = k
    · subst e
      rw [if_pos rfl] at hc
      cases hc
      exact ⟨hk, fun z => atKey_put_same hm (kint _) _ _⟩
    · rw [if_neg e] at hc
      obtain ⟨a, d⟩ := h.got x c hc
      exact ⟨a, fun z => by rw [atKey_put_other (lit_ne e), d z]⟩
theorem PicU.del {D : DataW Unit} {g : Gu} {k : Int} (h : PicU D g) : PicU (D.del (.int .i64 k)) (delU g k) := by
  refine ⟨fun x hx => ?_, fun x c hc => ?_⟩
  · unfold delU
    by_cases e : x = k
    · subst e; rw [if_pos rfl, has_del_same]; rfl
    · rw [if_neg e, has_del_other (lit_ne e), h.has x hx]
  · unfold delU at hc
    by_cases e : x = k
    · rw [if_pos e] at hc; cases hc
    · rw [if_neg e] at hc
      obtain ⟨a, d⟩ := h.got x c hc
      exact ⟨a, fun z => by rw [atKey_del_other (lit_ne e), d z]⟩
/-- the map in block M, of at most n entries -/
def MapU (w : World) (M n : Nat) (g : Gu) : Prop := ∃ D, w.ownsMap Try.prog 3 uR M n D ∧ PicU D g
theorem MapU.lt {w : World} {M n : Nat} {g : Gu} (h : MapU w M n g) : M < w.heap.size := by
  obtain ⟨D, ho, _⟩ := h
  exact ho.lt
theorem MapU.grown {w w' : World} {M n : Nat} {g : Gu} {row : Option Nat} (h : MapU w M n g) (hg : w.grownBy w' row) (hM : some M ≠ row) : MapU w' M n g := by
  obtain ⟨D, ho, hp⟩ := h
  exact ⟨D, ho.kept hg hM, hp⟩
theorem MapU.keep {w w' : World} {M n : Nat} {g : Gu} (h : MapU w M n g) (hb : Below w.heap.size w w') : MapU w' M n g :=
  h.grown (row := none) ⟨hb.os, hb.tape, hb.output, hb.size, fun k hk _ => hb.block k hk⟩ (by simp)
theorem MapU.mono {w : World} {M n n' : Nat} {g : Gu} (h : MapU w M n g) (hn : n ≤ n') : MapU w M n' g := by
  obtain ⟨D, ho, hp⟩ := h
  exact ⟨D, ho.mono hn, hp⟩
theorem MapU.chg {S : Nat → Prop} {w w' : World} {M n : Nat} {g : Gu} (h : MapU w M n g) (hc : Chg S w w') (hM : ¬ S M) : MapU w' M n g := by
  obtain ⟨D, ⟨es, c, hb, Ft⟩, hp⟩ := h
  exact ⟨D, ⟨es, c, (hc.block M (Array.getElem?_eq_some_iff.1 hb).1 hM).trans hb, Ft⟩, hp⟩
theorem MapU.new (w : World) : MapU (w.alloc (.map #[] 0)) w.heap.size 0 (fun _ => none) := ⟨_, World.ownsMap_made (H := Unit) w Try.prog 3 uR, PicU.nil⟩
theorem MapU.ne {w : World} {B M n : Nat} {g : Gu} {cs : Array Value} {t : TypeId} {f : Nat × Nat} (h : MapU w M n g) (hb : w.heap[B]? = some (.cells cs t f)) : M ≠ B := by
  rintro rfl
  obtain ⟨D, ⟨es, c, hbb, Ft⟩, hp⟩ := h
  rw [hb] at hbb
  cases hbb
theorem row_ne_mapU {w : World} {base sz : Nat} {e : TypeId} {v : Value} {n M n2 : Nat} {xs : List Value} {g : Gu} (h : w.ownsRow base e sz v n xs) (hb : MapU w M n2 g) : ∀ k, v.ownBlock = some k → k ≠ M := by
  rintro k hk rfl
  obtain ⟨D, ⟨es, c, hbb, Ft⟩, hp⟩ := hb
  rcases h.2 with ⟨rfl, _⟩ | ⟨g, cap, cur, rfl, _, hg, _⟩
  · cases hk
  · cases hk
    rw [hbb] at hg
    cases hg
theorem MapU.look {w : World} {M n : Nat} {g : Gu} (h : MapU w M n g) {key : Int} (hk : I64 key) :
    (Instr.lookup 92 (.map (some M)) (.int .i64 key) true).run Try.prog w = .ok (.tuple #[.int .u64 ((g key).getD 0 : Nat), .bool (g key).isSome]) w := by
  obtain ⟨D, ho, hp⟩ := h
  obtain ⟨v, ps, hrun, hv⟩ := ho.look_ok tlaw Try.underlying92 (uzero w) (uR_mk 0) (keyOf_int_mk Try.underlying3 hk.wf)
  obtain ⟨f, rfl, hz⟩ := uR_inv hv
  have h3 := congrArg Prod.fst hz
  simp only [] at h3
  rw [hrun, hp.has key hk]
  cases hg : g key with
  | none =>
    have hn : Maps.has D (.int .i64 key) = false := by rw [hp.has key hk, hg]; rfl
    rw [atKey_of_not_has hn] at h3
    simp only [DataW.lit.injEq, Lit.int.injEq, true_and] at h3
    rw [← h3]; rfl
  | some c =>
    rw [(hp.got key c hg).2] at h3
    simp only [DataW.lit.injEq, Lit.int.injEq, true_and] at h3
    rw [← h3]; rfl
theorem MapU.look1 {w : World} {M n : Nat} {g : Gu} (h : MapU w M n g) {key : Int} (hk : I64 key) :
    (Instr.lookup 92 (.map (some M)) (.int .i64 key) false).run Try.prog w = .ok (.int .u64 ((g key).getD 0 : Nat)) w := by
  obtain ⟨D, ho, hp⟩ := h
  obtain ⟨v, ps, hrun, hv⟩ := ho.lookup tlaw Try.underlying92 (uzero w) (uR_mk 0) (keyOf_int_mk Try.underlying3 hk.wf)
  obtain ⟨f, rfl, hz⟩ := uR_inv hv
  have h3 := congrArg Prod.fst hz
  simp only [] at h3
  rw [hrun]
  cases hg : g key with
  | none =>
    have hn : Maps.has D (.int .i64 key) = false := by rw [hp.has key hk, hg]; rfl
    rw [atKey_of_not_has hn] at h3
    simp only [DataW.lit.injEq, Lit.int.injEq, true_and] at h3
    rw [← h3]; rfl
  | some c =>
    rw [(hp.got key c hg).2] at h3
    simp only [DataW.lit.injEq, Lit.int.injEq, true_and] at h3
    rw [← h3]; rfl
theorem MapU.put {w : World} {M n : Nat} {g : Gu} (h : MapU w M n g) {key : Int} {f : Nat} (hk : I64 key) (hn : n < maxLen) :
    ∃ w', (Instr.mapUpdate 92 (.map (some M)) (.int .i64 key) (.int .u64 (f : Nat))).run Try.prog w = .ok () w' ∧ MapU w' M (n + 1) (putU g key f) ∧ w.grownBy w' (some M) := by
  obtain ⟨D, ho, hp⟩ := h
  obtain ⟨w', hrun, ho', ht⟩ := ho.store tlaw Try.underlying92 hn (keyOf_int_mk Try.underlying3 hk.wf) (uR_mk f)
  exact ⟨w', hrun, ⟨_, ho', hp.put ho.isMap hk⟩, ht.grown⟩
theorem MapU.drop {w : World} {M n : Nat} {g : Gu} (h : MapU w M n g) {key : Int} (hk : I64 key) (ty : TypeId) :
    ∃ w', (Builtin.delete_ #[92, 3] ty #[.map (some M), .int .i64 key]).run Try.prog w = .ok (.tuple #[]) w' ∧ MapU w' M n (delU g key) ∧ w.grownBy w' (some M) := by
  obtain ⟨D, ho, hp⟩ := h
  obtain ⟨w', hrun, ho', ht⟩ := ho.drop tlaw Try.underlying92 (keyOf_int_mk Try.underlying3 hk.wf) ty
  exact ⟨w', hrun, ⟨_, ho', hp.del⟩, ht.grown⟩
theorem MapU.clear {w : World} {M n : Nat} {g : Gu} (h : MapU w M n g) (ty : TypeId) :
    ∃ w', (Builtin.clear_ #[92] ty #[.map (some M)]).run Try.prog w = .ok (.tuple #[]) w' ∧ MapU w' M 0 (fun _ => none) ∧ w.grownBy w' (some M) := by
  obtain ⟨D, ⟨es, clock, hb, F, hs, hD⟩, hp⟩ := h
  refine ⟨setBlock w M (.map #[] clock), ?_, ⟨.map [], ⟨#[], clock, heap_setBlock_same hb _, ⟨by simp, stamped_empty clock, by simp⟩, Nat.le_refl _, rfl⟩, PicU.nil⟩, ⟨rfl, rfl, rfl, by simp [setBlock], fun i _ hi => heap_setBlock_other hb _ (fun e => hi (by rw [e]))⟩⟩
  simp [Builtin.clear_, run_underlying Try.underlying92, MapKept.run_getObj_map hb, MapKept.run_setObj_map _ hb, Result.andThen]
  rfl

/-- a device: what lasts, what is cached, what is flushed, of how many entries at most, whether it is dead, its fuse, its steps -/
structure Dv where
  L : List Nat
  c : Gu
  f : Gu
  n : Nat
  dead : Bool
  fuse : Int
  steps : Int
def dv0 (L : List Nat) : Dv := ⟨L, fun _ => none, fun _ => none, 0, false, 0, 0⟩
def dvc (v0 : Value) (C M : Nat) (s : Dv) : Array Value := #[v0, .map (some C), .map (some M), .bool s.dead, .int .i64 s.fuse, .int .i64 s.steps]
/-- it lies in block B; F: the blocks that it may change -/
structure DvR (w : World) (B C M : Nat) (v0 : Value) (F : Nat → Prop) (s : Dv) : Prop where
  blk : w.heap[B]? = some (.cells (dvc v0 C M s) 94 (0, 0))
  last : OwnU w 0 v0 s.L
  cach : MapU w C s.n s.c
  flus : MapU w M s.n s.f
  ne : C ≠ M
  fB : F B
  fC : F C
  fM : F M
  f0 : ∀ k, v0.ownBlock = some k → F k
  lt : ∀ k, F k → k < w.heap.size
def DvAt (w : World) (B : Nat) (F : Nat → Prop) (s : Dv) : Prop := ∃ C M v0, DvR w B C M v0 F s
theorem DvR.chg {S F : Nat → Prop} {w w' : World} {B C M : Nat} {v0 : Value} {s : Dv} (h : DvR w B C M v0 F s) (hc : Chg S w w') (hn : ∀ k, F k → ¬ S k) : DvR w' B C M v0 F s :=
  ⟨(hc.block B (h.lt _ h.fB) (hn _ h.fB)).trans h.blk, h.last.chg hc (fun k e => hn _ (h.f0 k e)), h.cach.chg hc (hn _ h.fC), h.flus.chg hc (hn _ h.fM), h.ne, h.fB, h.fC, h.fM, h.f0, fun k e => Nat.lt_of_lt_of_le (h.lt k e) hc.size⟩
theorem DvR.keep {F : Nat → Prop} {w w' : World} {B C M : Nat} {v0 : Value} {s : Dv} (h : DvR w B C M v0 F s) (hb : Below w.heap.size w w') : DvR w' B C M v0 F s := h.chg (Chg.of_below (fun _ => False) hb) (fun _ _ q => q)
theorem DvAt.chg {S F : Nat → Prop} {w w' : World} {B : Nat} {s : Dv} (h : DvAt w B F s) (hc : Chg S w w') (hn : ∀ k, F k → ¬ S k) : DvAt w' B F s := by
  obtain ⟨C, M, v0, h⟩ := h
  exact ⟨C, M, v0, h.chg hc hn⟩
theorem DvAt.keep {F : Nat → Prop} {w w' : World} {B : Nat} {s : Dv} (h : DvAt w B F s) (hb : Below w.heap.size w w') : DvAt w' B F s := h.chg (Chg.of_below (fun _ => False) hb) (fun _ _ q => q)
theorem DvAt.lt {F : Nat → Prop} {w : World} {B : Nat} {s : Dv} (h : DvAt w B F s) : ∀ k, F k → k < w.heap.size := by
  obtain ⟨C, M, v0, h⟩ := h
  exact h.lt
theorem DvAt.fB {F : Nat → Prop} {w : World} {B : Nat} {s : Dv} (h : DvAt w B F s) : F B := by
  obtain ⟨C, M, v0, h⟩ := h
  exact h.fB
theorem DvR.cells {F : Nat → Prop} {w : World} {B C M : Nat} {v0 : Value} {s : Dv} (h : DvR w B C M v0 F s) :
    (w.cell? ⟨B, 0, none⟩ = some v0 ∧ w.cell? ⟨B, 1, none⟩ = some (.map (some C)) ∧ w.cell? ⟨B, 2, none⟩ = some (.map (some M)) ∧ w.cell? ⟨B, 3, none⟩ = some (.bool s.dead) ∧ w.cell? ⟨B, 4, none⟩ = some (.int .i64 s.fuse) ∧ w.cell? ⟨B, 5, none⟩ = some (.int .i64 s.steps)) ∧ ∀ o, w.frozen? ⟨B, o, none⟩ = false := by
  refine ⟨⟨(cell_blk h.blk rfl).1, (cell_blk h.blk rfl).1, (cell_blk h.blk rfl).1, (cell_blk h.blk rfl).1, (cell_blk h.blk rfl).1, (cell_blk h.blk rfl).1⟩, fun o => ?_⟩
  simp [World.frozen?, h.blk]
/-- one cell that is no list and no map is another one -/
theorem DvR.put {F : Nat → Prop} {w : World} {B C M o : Nat} {v0 u : Value} {s s' : Dv} (h : DvR w B C M v0 F s) (hL : s'.L = s.L) (hc' : s'.c = s.c) (hf : s'.f = s.f) (hm : s'.n = s.n) (hu : (dvc v0 C M s).setIfInBounds o u = dvc v0 C M s') : DvR (w.setCell ⟨B, o, none⟩ u) B C M v0 F s' := by
  have hc := Chg.setCell (S := fun k => k = B) w B o u rfl
  refine ⟨by rw [set_blk h.blk, hu], by rw [hL]; exact h.last.chg hc (row_ne h.last h.blk (by decide)), by rw [hc', hm]; exact h.cach.chg hc (h.cach.ne h.blk), by rw [hf, hm]; exact h.flus.chg hc (h.flus.ne h.blk), h.ne, h.fB, h.fC, h.fM, h.f0, fun k e => by rw [size_setCell]; exact h.lt k e⟩
/-- the cached words are others -/
theorem DvR.cTo {F : Nat → Prop} {w w' : World} {B C M n : Nat} {v0 : Value} {s : Dv} {g : Gu} (h : DvR w B C M v0 F s) (hg : w.grownBy w' (some C)) (hm : MapU w' C n g) (hn : s.n ≤ n) : DvR w' B C M v0 F { s with c := g, n := n } := by
  have hc0 : Chg (fun k => k = C) w w' := Chg.of_grown hg (fun k e => .inl (by cases e; rfl))
  exact ⟨(hc0.block B (h.lt _ h.fB) (fun e => h.cach.ne h.blk e.symm)).trans h.blk, h.last.chg hc0 (row_ne_mapU h.last h.cach), hm, (h.flus.chg hc0 (fun e => h.ne e.symm)).mono hn, h.ne, h.fB, h.fC, h.fM, h.f0, fun k e => Nat.lt_of_lt_of_le (h.lt k e) hg.size⟩
/-- the flushed words are others -/
theorem DvR.fTo {F : Nat → Prop} {w w' : World} {B C M n : Nat} {v0 : Value} {s : Dv} {g : Gu} (h : DvR w B C M v0 F s) (hg : w.grownBy w' (some M)) (hm : MapU w' M n g) (hn : s.n ≤ n) : DvR w' B C M v0 F { s with f := g, n := n } := by
  have hc0 : Chg (fun k => k = M) w w' := Chg.of_grown hg (fun k e => .inl (by cases e; rfl))
  exact ⟨(hc0.block B (h.lt _ h.fB) (fun e => h.flus.ne h.blk e.symm)).trans h.blk, h.last.chg hc0 (row_ne_mapU h.last h.flus), (h.cach.chg hc0 h.ne).mono hn, hm, h.ne, h.fB, h.fC, h.fM, h.f0, fun k e => Nat.lt_of_lt_of_le (h.lt k e) hg.size⟩
/-- a lasting word is another one -/
theorem DvR.lTo {F : Nat → Prop} {w : World} {B C M g cap N i x : Nat} {s : Dv} (h : DvR w B C M (.slice (some ⟨g, 0, none⟩) N cap) F s) (hN : s.L.length = N) (hi : i < N) : DvR (w.setCell ⟨g, i, none⟩ (.int .u64 (x : Nat))) B C M (.slice (some ⟨g, 0, none⟩) N cap) F { s with L := s.L.set i x } := by
  have hc := Chg.setCell (S := fun k => k = g) w g i (.int .u64 (x : Nat)) rfl
  have hgB : B ≠ g := fun e => row_ne h.last h.blk (by decide) g rfl e.symm
  have hgC : C ≠ g := fun e => row_ne_mapU h.last h.cach g rfl e.symm
  have hgM : M ≠ g := fun e => row_ne_mapU h.last h.flus g rfl e.symm
  exact ⟨(hc.block B (h.lt _ h.fB) hgB).trans h.blk, h.last.set hN hi, h.cach.chg hc hgC, h.flus.chg hc hgM, h.ne, h.fB, h.fC, h.fM, h.f0, fun k e => by rw [size_setCell]; exact h.lt k e⟩
end Go.Proofs.Ytcemiclbeocnjaa
