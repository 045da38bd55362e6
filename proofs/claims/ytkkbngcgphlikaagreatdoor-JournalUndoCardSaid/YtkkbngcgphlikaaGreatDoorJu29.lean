/-
  Part of the proof of JournalUndo.
-/
import Derived.Test.YtkkbngcgphlikaaGreatDoorJu28
import Derived.Test.YtkkbngcgphlikaaGreatDoorJu30
import Derived.Shelf.SortM.Plain
import Derived.Shelf.SortM.SortNone
import Derived.Test.YtkkbngcgphlikaaGreatDoorJu0
set_option maxRecDepth 10000
set_option maxHeartbeats 2000000
set_option linter.unusedVariables false
set_option linter.unusedSimpArgs false
section
namespace Go.Proofs.YtkkbngcgphlikaaGreatDoor
open Go.RowKit Go.ChangeShapes Go.WideShapes Go.Deep Go.Maps Go.Sort Go.Shelf
theorem keys_facts {H : Type} {D0 : DataW H} {P : Program} {k : TypeId} {R : Value → Option (DataW H × List MemPlace)} {w : World} {b n : Nat} (hown : w.ownsMap P k R b n D0) (K : Keyed P k) (hk : P.underlying k = some (.int .i64)) :
 (intKeys D0).Nodup ∧ (∀ x, x ∈ intKeys D0 ↔ has D0 (.int .i64 x) = true) ∧ (intKeys D0).length ≤ n := by
 have hsz := hown.size_le
 obtain ⟨es, hD, hpw, _⟩ := hown.entries K
 obtain ⟨es', hD', hko⟩ := hown.keysOf
 obtain rfl : es = es' := by rw [hD] at hD'; simpa using hD'
 subst hD
 have hk2 : ∀ p ∈ es, ∃ x, p.1 = .int .i64 x := fun p hp => by obtain ⟨v, hv⟩ := hko p hp; obtain ⟨x, _, hx, _⟩ := Maps.keyOf_i64 hk hv; exact ⟨x, hx⟩
 refine ⟨?_, fun x => ?_, ?_⟩
 ·show (es.map fun p => Go.intOf p.1).Nodup
  refine List.pairwise_map.2 (hpw.imp_of_mem fun {p q} hp' hq' hne e => hne ?_)
  obtain ⟨a, ha⟩ := hk2 p hp'
  obtain ⟨b, hb⟩ := hk2 q hq'
  rw [ha, hb] at e ⊢
  exact congrArg _ e
 rotate_left
 ·show (es.map fun p => Go.intOf p.1).length ≤ n
  rw [List.length_map]
  exact hsz
 rw [has_eq, List.any_eq_true]
 show x ∈ (es.map fun p => Go.intOf p.1) ↔ _
 rw [List.mem_map]
 constructor
 ·rintro ⟨p, hp', rfl⟩
  obtain ⟨a, ha⟩ := hk2 p hp'
  exact ⟨p, hp', by rw [ha]; simp [Lit.sameKey, Go.intOf]⟩
 rintro ⟨p, hp', hs⟩
 obtain ⟨a, ha⟩ := hk2 p hp'
 rw [ha] at hs
 exact ⟨p, hp', by rw [ha]; simpa [Lit.sameKey, Go.intOf] using hs⟩
theorem iE_map (l : List Int) : l.flatMap iE = l.map encZ := by
 induction l with
 | nil => rfl
 | cons x l ih => rw [List.flatMap_cons, ih]; rfl
theorem sort_inc {J : List Int} (h : J.Nodup) : (J.mergeSort fun x y => decide (x ≤ y)).Pairwise (· < ·) := by
 have h1 : (J.mergeSort fun x y => decide (x ≤ y)).Pairwise (fun a b => decide (a ≤ b) = true) := List.pairwise_mergeSort (fun a b c h1 h2 => by simp only [decide_eq_true_eq] at *; omega) (fun a b => by simp only [Bool.or_eq_true, decide_eq_true_eq]; omega) J
 have h2 : (J.mergeSort fun x y => decide (x ≤ y)).Nodup := (List.mergeSort_perm J _).nodup_iff.2 h
 exact (h1.and h2).imp (fun {a b} hab => by
  have h3 := hab.1
  simp only [decide_eq_true_eq] at h3
  have h4 := hab.2
  omega)
theorem sortsA (m : Nat) : AnyZI.SortsIn Tryz.prog sortedA_ren Fence.wide m :=
 ⟨fun blk off cap ss W hH hblk hsz => callsIn_wide.2 (AnyM.slices_Sort_int sortA blk off cap ss W hH hblk hsz),
  fun p cap W => callsIn_wide.2 (AnyM.slices_Sort_int_none sortA p cap W)⟩
end Go.Proofs.YtkkbngcgphlikaaGreatDoor
end
section
namespace Go.Proofs.YtkkbngcgphlikaaGreatDoor
open Go.RowKit Go.ChangeShapes Go.WideShapes Go.Deep Go.Maps Go.MapKept Go.ChangeMaps
def uR (v : Value) : Option (DataW Unit × List MemPlace) :=
 match v with
 | .int .u64 a => some (.lit (.int .u64 a), [])
 | _ => none
theorem uR_mk (x : Nat) : uR (.int .u64 (x : Nat)) = some (.lit (.int .u64 (x : Nat)), []) := rfl
theorem uR_inv {v : Value} {z : DataW Unit × List MemPlace} (h : uR v = some z) : ∃ a, v = .int .u64 a ∧ z = (.lit (.int .u64 a), []) := by
 unfold uR at h
 split at h
 ·cases h
  exact ⟨_, rfl, rfl⟩
 cases h
theorem uzero (w : World) : (zeroValue 40).run Tryz.prog w = .ok (.int .u64 0) w := by kernel_rfl
abbrev Gu := Int → Option Nat
structure PicU (D : DataW Unit) (g : Gu) : Prop where
 has : ∀ x, I64 x → Maps.has D (.int .i64 x) = (g x).isSome
 got : ∀ x (c : Nat), g x = some c → I64 x ∧ ∀ z, D.atKey (.int .i64 x) z = .lit (.int .u64 (c : Nat))
def putU (g : Gu) (k : Int) (f : Nat) : Gu := fun x => if x = k then some f else g x
def delU (g : Gu) (k : Int) : Gu := fun x => if x = k then none else g x
theorem PicU.nil : PicU (.map []) (fun _ => none) := ⟨fun x _ => rfl, fun x c h => by cases h⟩
theorem PicU.put {D : DataW Unit} {g : Gu} {k : Int} {f : Nat} (h : PicU D g) (hm : IsMap D) (hk : I64 k) : PicU (D.put (.int .i64 k) (.lit (.int .u64 (f : Nat)))) (putU g k f) := by
 refine ⟨fun x hx => ?_, fun x c hc => ?_⟩
 ·unfold putU
  by_cases e : x = k
  ·subst e; rw [if_pos rfl, has_put_same hm (kint _)]; rfl
  rw [if_neg e, has_put_other (lit_ne e), h.has x hx]
 unfold putU at hc
 by_cases e : x = k
 ·subst e
  rw [if_pos rfl] at hc
  cases hc
  exact ⟨hk, fun z => atKey_put_same hm (kint _) _ _⟩
 rw [if_neg e] at hc
 obtain ⟨a, d⟩ := h.got x c hc
 exact ⟨a, fun z => by rw [atKey_put_other (lit_ne e), d z]⟩
theorem PicU.del {D : DataW Unit} {g : Gu} {k : Int} (h : PicU D g) : PicU (D.del (.int .i64 k)) (delU g k) := by
 refine ⟨fun x hx => ?_, fun x c hc => ?_⟩
 ·unfold delU
  by_cases e : x = k
  ·subst e; rw [if_pos rfl, has_del_same]; rfl
  rw [if_neg e, has_del_other (lit_ne e), h.has x hx]
 unfold delU at hc
 by_cases e : x = k
 ·rw [if_pos e] at hc; cases hc
 rw [if_neg e] at hc
 obtain ⟨a, d⟩ := h.got x c hc
 exact ⟨a, fun z => by rw [atKey_del_other (lit_ne e), d z]⟩
def MapU (w : World) (M n : Nat) (g : Gu) : Prop := ∃ D, w.ownsMap Tryz.prog 3 uR M n D ∧ PicU D g
theorem MapU.grown {w w' : World} {M n : Nat} {g : Gu} {row : Option Nat} (h : MapU w M n g) (hg : w.grownBy w' row) (hM : some M ≠ row) : MapU w' M n g := by
 obtain ⟨D, ho, hp⟩ := h
 exact ⟨D, ho.kept hg hM, hp⟩
theorem MapU.keep {w w' : World} {M n : Nat} {g : Gu} (h : MapU w M n g) (hb : Below w.heap.size w w') : MapU w' M n g :=
 h.grown (row := none) ⟨hb.os, hb.tape, hb.output, hb.size, fun k hk _ => hb.block k hk⟩ (by simp)
theorem MapU.mono {w : World} {M n n' : Nat} {g : Gu} (h : MapU w M n g) (hn : n ≤ n') : MapU w M n' g := by
 obtain ⟨D, ho, hp⟩ := h
 exact ⟨D, ho.mono hn, hp⟩
theorem MapU.chg {S : Nat → Prop} {w w' : World} {M n : Nat} {g : Gu} (h : MapU w M n g) (hc : Chg S w w') (hM : ¬ S M) : MapU w' M n g := by
 obtain ⟨D, ⟨es, c, hb, Ft⟩, hp⟩ := h
 exact ⟨D, ⟨es, c, (hc.block M (Array.getElem?_eq_some_iff.1 hb).1 hM).trans hb, Ft⟩, hp⟩
theorem MapU.new (w : World) : MapU (w.alloc (.map #[] 0)) w.heap.size 0 (fun _ => none) := ⟨_, World.ownsMap_made (H := Unit) w Tryz.prog 3 uR, PicU.nil⟩
theorem MapU.ne {w : World} {B M n : Nat} {g : Gu} {cs : Array Value} {t : TypeId} {f : Nat × Nat} (h : MapU w M n g) (hb : w.heap[B]? = some (.cells cs t f)) : M ≠ B := by
 rintro rfl
 obtain ⟨D, ⟨es, c, hbb, Ft⟩, hp⟩ := h
 rw [hb] at hbb
 cases hbb
theorem row_ne_mapU {w : World} {base sz : Nat} {e : TypeId} {v : Value} {n M n2 : Nat} {xs : List Value} {g : Gu} (h : w.ownsRow base e sz v n xs) (hb : MapU w M n2 g) : ∀ k, v.ownBlock = some k → k ≠ M := by
 rintro k hk rfl
 obtain ⟨D, ⟨es, c, hbb, Ft⟩, hp⟩ := hb
 rcases h.2 with ⟨rfl, _⟩ | ⟨g, cap, cur, rfl, _, hg, _⟩
 ·cases hk
 cases hk
 rw [hbb] at hg
 cases hg
theorem MapU.look {w : World} {M n : Nat} {g : Gu} (h : MapU w M n g) {key : Int} (hk : I64 key) :
 (Instr.lookup 101 (.map (some M)) (.int .i64 key) true).run Tryz.prog w = .ok (.tuple #[.int .u64 ((g key).getD 0 : Nat), .bool (g key).isSome]) w := by
 obtain ⟨D, ho, hp⟩ := h
 obtain ⟨v, ps, hrun, hv⟩ := ho.look_ok tlaw Tryz.underlying101 (uzero w) (uR_mk 0) (keyOf_int_mk Tryz.underlying3 hk.wf)
 obtain ⟨f, rfl, hz⟩ := uR_inv hv
 have h3 := congrArg Prod.fst hz
 simp only [] at h3
 rw [hrun, hp.has key hk]
 cases hg : g key with
 | none =>
   have hn : Maps.has D (.int .i64 key) = false := by rw [hp.has key hk, hg]; rfl
   rw [atKey_of_not_has hn] at h3
   simp only [DataW.lit.injEq, Lit.int.injEq, true_and] at h3
   rw [← h3]; rfl
 | some c =>
   rw [(hp.got key c hg).2] at h3
   simp only [DataW.lit.injEq, Lit.int.injEq, true_and] at h3
   rw [← h3]; rfl
theorem MapU.look1 {w : World} {M n : Nat} {g : Gu} (h : MapU w M n g) {key : Int} (hk : I64 key) :
 (Instr.lookup 101 (.map (some M)) (.int .i64 key) false).run Tryz.prog w = .ok (.int .u64 ((g key).getD 0 : Nat)) w := by
 obtain ⟨D, ho, hp⟩ := h
 obtain ⟨v, ps, hrun, hv⟩ := ho.lookup tlaw Tryz.underlying101 (uzero w) (uR_mk 0) (keyOf_int_mk Tryz.underlying3 hk.wf)
 obtain ⟨f, rfl, hz⟩ := uR_inv hv
 have h3 := congrArg Prod.fst hz
 simp only [] at h3
 rw [hrun]
 cases hg : g key with
 | none =>
   have hn : Maps.has D (.int .i64 key) = false := by rw [hp.has key hk, hg]; rfl
   rw [atKey_of_not_has hn] at h3
   simp only [DataW.lit.injEq, Lit.int.injEq, true_and] at h3
   rw [← h3]; rfl
 | some c =>
   rw [(hp.got key c hg).2] at h3
   simp only [DataW.lit.injEq, Lit.int.injEq, true_and] at h3
   rw [← h3]; rfl
theorem MapU.put {w : World} {M n : Nat} {g : Gu} (h : MapU w M n g) {key : Int} {f : Nat} (hk : I64 key) (hn : n < maxLen) :
 ∃ w', (Instr.mapUpdate 101 (.map (some M)) (.int .i64 key) (.int .u64 (f : Nat))).run Tryz.prog w = .ok () w' ∧ MapU w' M (n + 1) (putU g key f) ∧ w.grownBy w' (some M) := by
 obtain ⟨D, ho, hp⟩ := h
 obtain ⟨w', hrun, ho', ht⟩ := ho.store tlaw Tryz.underlying101 hn (keyOf_int_mk Tryz.underlying3 hk.wf) (uR_mk f)
 exact ⟨w', hrun, ⟨_, ho', hp.put ho.isMap hk⟩, ht.grown⟩
theorem MapU.drop {w : World} {M n : Nat} {g : Gu} (h : MapU w M n g) {key : Int} (hk : I64 key) (ty : TypeId) :
 ∃ w', (Builtin.delete_ #[101, 3] ty #[.map (some M), .int .i64 key]).run Tryz.prog w = .ok (.tuple #[]) w' ∧ MapU w' M n (delU g key) ∧ w.grownBy w' (some M) := by
 obtain ⟨D, ho, hp⟩ := h
 obtain ⟨w', hrun, ho', ht⟩ := ho.drop tlaw Tryz.underlying101 (keyOf_int_mk Tryz.underlying3 hk.wf) ty
 exact ⟨w', hrun, ⟨_, ho', hp.del⟩, ht.grown⟩
theorem MapU.clear {w : World} {M n : Nat} {g : Gu} (h : MapU w M n g) (ty : TypeId) :
 ∃ w', (Builtin.clear_ #[101] ty #[.map (some M)]).run Tryz.prog w = .ok (.tuple #[]) w' ∧ MapU w' M 0 (fun _ => none) ∧ w.grownBy w' (some M) := by
 obtain ⟨D, ⟨es, clock, hb, F, hs, hD⟩, hp⟩ := h
 refine ⟨setBlock w M (.map #[] clock), ?_, ⟨.map [], ⟨#[], clock, heap_setBlock_same hb _, ⟨by simp, stamped_empty clock, by simp⟩, Nat.le_refl _, rfl⟩, PicU.nil⟩, ⟨rfl, rfl, rfl, by simp [setBlock], fun i _ hi => heap_setBlock_other hb _ (fun e => hi (by rw [e]))⟩⟩
 simp [Builtin.clear_, run_underlying Tryz.underlying101, MapKept.run_getObj_map hb, MapKept.run_setObj_map _ hb, Result.andThen]
 rfl
structure Dv where
 L : List Nat
 c : Gu
 f : Gu
 n : Nat
 dead : Bool
 fuse : Int
 steps : Int
def dv0 (L : List Nat) : Dv := ⟨L, fun _ => none, fun _ => none, 0, false, 0, 0⟩
def dvc (v0 : Value) (C M : Nat) (s : Dv) : Array Value := #[v0, .map (some C), .map (some M), .bool s.dead, .int .i64 s.fuse, .int .i64 s.steps]
structure DvR (w : World) (B C M : Nat) (v0 : Value) (F : Nat → Prop) (s : Dv) : Prop where
 blk : w.heap[B]? = some (.cells (dvc v0 C M s) 103 (0, 0))
 last : OwnU w 0 v0 s.L
 cach : MapU w C s.n s.c
 flus : MapU w M s.n s.f
 ne : C ≠ M
 fB : F B
 fC : F C
 fM : F M
 f0 : ∀ k, v0.ownBlock = some k → F k
 lt : ∀ k, F k → k < w.heap.size
def DvAt (w : World) (B : Nat) (F : Nat → Prop) (s : Dv) : Prop := ∃ C M v0, DvR w B C M v0 F s
theorem DvR.chg {S F : Nat → Prop} {w w' : World} {B C M : Nat} {v0 : Value} {s : Dv} (h : DvR w B C M v0 F s) (hc : Chg S w w') (hn : ∀ k, F k → ¬ S k) : DvR w' B C M v0 F s :=
 ⟨(hc.block B (h.lt _ h.fB) (hn _ h.fB)).trans h.blk, h.last.chg hc (fun k e => hn _ (h.f0 k e)), h.cach.chg hc (hn _ h.fC), h.flus.chg hc (hn _ h.fM), h.ne, h.fB, h.fC, h.fM, h.f0, fun k e => Nat.lt_of_lt_of_le (h.lt k e) hc.size⟩
theorem DvR.keep {F : Nat → Prop} {w w' : World} {B C M : Nat} {v0 : Value} {s : Dv} (h : DvR w B C M v0 F s) (hb : Below w.heap.size w w') : DvR w' B C M v0 F s := h.chg (Chg.of_below (fun _ => False) hb) (fun _ _ q => q)
theorem DvAt.chg {S F : Nat → Prop} {w w' : World} {B : Nat} {s : Dv} (h : DvAt w B F s) (hc : Chg S w w') (hn : ∀ k, F k → ¬ S k) : DvAt w' B F s := by
 obtain ⟨C, M, v0, h⟩ := h
 exact ⟨C, M, v0, h.chg hc hn⟩
theorem DvAt.keep {F : Nat → Prop} {w w' : World} {B : Nat} {s : Dv} (h : DvAt w B F s) (hb : Below w.heap.size w w') : DvAt w' B F s := h.chg (Chg.of_below (fun _ => False) hb) (fun _ _ q => q)
theorem DvAt.lt {F : Nat → Prop} {w : World} {B : Nat} {s : Dv} (h : DvAt w B F s) : ∀ k, F k → k < w.heap.size := by
 obtain ⟨C, M, v0, h⟩ := h
 exact h.lt
theorem DvR.cells {F : Nat → Prop} {w : World} {B C M : Nat} {v0 : Value} {s : Dv} (h : DvR w B C M v0 F s) :
 (w.cell? ⟨B, 0, none⟩ = some v0 ∧ w.cell? ⟨B, 1, none⟩ = some (.map (some C)) ∧ w.cell? ⟨B, 2, none⟩ = some (.map (some M)) ∧ w.cell? ⟨B, 3, none⟩ = some (.bool s.dead) ∧ w.cell? ⟨B, 4, none⟩ = some (.int .i64 s.fuse) ∧ w.cell? ⟨B, 5, none⟩ = some (.int .i64 s.steps)) ∧ ∀ o, w.frozen? ⟨B, o, none⟩ = false := by
 refine ⟨⟨(cell_blk h.blk rfl).1, (cell_blk h.blk rfl).1, (cell_blk h.blk rfl).1, (cell_blk h.blk rfl).1, (cell_blk h.blk rfl).1, (cell_blk h.blk rfl).1⟩, fun o => ?_⟩
 simp [World.frozen?, h.blk]
theorem DvR.put {F : Nat → Prop} {w : World} {B C M o : Nat} {v0 u : Value} {s s' : Dv} (h : DvR w B C M v0 F s) (hL : s'.L = s.L) (hc' : s'.c = s.c) (hf : s'.f = s.f) (hm : s'.n = s.n) (hu : (dvc v0 C M s).setIfInBounds o u = dvc v0 C M s') : DvR (w.setCell ⟨B, o, none⟩ u) B C M v0 F s' := by
 have hc := Chg.setCell (S := fun k => k = B) w B o u rfl
 refine ⟨by rw [set_blk h.blk, hu], by rw [hL]; exact h.last.chg hc (row_ne h.last h.blk (by decide)), by rw [hc', hm]; exact h.cach.chg hc (h.cach.ne h.blk), by rw [hf, hm]; exact h.flus.chg hc (h.flus.ne h.blk), h.ne, h.fB, h.fC, h.fM, h.f0, fun k e => by rw [size_setCell]; exact h.lt k e⟩
theorem DvR.cTo {F : Nat → Prop} {w w' : World} {B C M n : Nat} {v0 : Value} {s : Dv} {g : Gu} (h : DvR w B C M v0 F s) (hg : w.grownBy w' (some C)) (hm : MapU w' C n g) (hn : s.n ≤ n) : DvR w' B C M v0 F { s with c := g, n := n } := by
 have hc0 : Chg (fun k => k = C) w w' := Chg.of_grown hg (fun k e => .inl (by cases e; rfl))
 exact ⟨(hc0.block B (h.lt _ h.fB) (fun e => h.cach.ne h.blk e.symm)).trans h.blk, h.last.chg hc0 (row_ne_mapU h.last h.cach), hm, (h.flus.chg hc0 (fun e => h.ne e.symm)).mono hn, h.ne, h.fB, h.fC, h.fM, h.f0, fun k e => Nat.lt_of_lt_of_le (h.lt k e) hg.size⟩
theorem DvR.fTo {F : Nat → Prop} {w w' : World} {B C M n : Nat} {v0 : Value} {s : Dv} {g : Gu} (h : DvR w B C M v0 F s) (hg : w.grownBy w' (some M)) (hm : MapU w' M n g) (hn : s.n ≤ n) : DvR w' B C M v0 F { s with f := g, n := n } := by
 have hc0 : Chg (fun k => k = M) w w' := Chg.of_grown hg (fun k e => .inl (by cases e; rfl))
 exact ⟨(hc0.block B (h.lt _ h.fB) (fun e => h.flus.ne h.blk e.symm)).trans h.blk, h.last.chg hc0 (row_ne_mapU h.last h.flus), (h.cach.chg hc0 h.ne).mono hn, hm, h.ne, h.fB, h.fC, h.fM, h.f0, fun k e => Nat.lt_of_lt_of_le (h.lt k e) hg.size⟩
theorem DvR.lTo {F : Nat → Prop} {w : World} {B C M g cap N i x : Nat} {s : Dv} (h : DvR w B C M (.slice (some ⟨g, 0, none⟩) N cap) F s) (hN : s.L.length = N) (hi : i < N) : DvR (w.setCell ⟨g, i, none⟩ (.int .u64 (x : Nat))) B C M (.slice (some ⟨g, 0, none⟩) N cap) F { s with L := s.L.set i x } := by
 have hc := Chg.setCell (S := fun k => k = g) w g i (.int .u64 (x : Nat)) rfl
 have hgB : B ≠ g := fun e => row_ne h.last h.blk (by decide) g rfl e.symm
 have hgC : C ≠ g := fun e => row_ne_mapU h.last h.cach g rfl e.symm
 have hgM : M ≠ g := fun e => row_ne_mapU h.last h.flus g rfl e.symm
 exact ⟨(hc.block B (h.lt _ h.fB) hgB).trans h.blk, h.last.set hN hi, h.cach.chg hc hgC, h.flus.chg hc hgM, h.ne, h.fB, h.fC, h.fM, h.f0, fun k e => by rw [size_setCell]; exact h.lt k e⟩
end Go.Proofs.YtkkbngcgphlikaaGreatDoor
end
section
namespace Go.Proofs.YtkkbngcgphlikaaGreatDoor
open Go.RowKit Go.ChangeShapes Go.WideShapes Go.Deep Go.Maps
structure GoodD (s : Dv) : Prop where
 len : s.L.length ≤ 1000
 len0 : 1 ≤ s.L.length
 cin : ∀ x a, s.c x = some a → 0 ≤ x ∧ x < s.L.length
 fin : ∀ x a, s.f x = some a → ∃ b, s.c x = some b
 n : s.n ≤ 100000
 st0 : 0 ≤ s.steps
 st : s.steps ≤ 100000
 fu0 : 0 ≤ s.fuse
 fu : s.fuse ≤ 1099511627776
def hasD (s : Dv) (x : Int) : Bool := decide (0 ≤ x) && decide (x < s.L.length)
def loadD (s : Dv) (x : Int) : Nat := if hasD s x then (s.c x).getD (s.L.getD x.toNat 0) else 0
def doneD (s : Dv) : Bool := !s.dead && !decide (s.fuse = 1)
def stepD (s : Dv) : Dv := if s.dead then s else if s.fuse = 1 then { s with fuse := 0, dead := true } else { s with fuse := max (s.fuse - 1) 0, steps := s.steps + 1 }
theorem stepD_same (s : Dv) : (stepD s).L = s.L ∧ (stepD s).c = s.c ∧ (stepD s).f = s.f ∧ (stepD s).n = s.n := by
 unfold stepD
 split
 ·exact ⟨rfl, rfl, rfl, rfl⟩
 split <;> exact ⟨rfl, rfl, rfl, rfl⟩
theorem dHas (B : Nat) (F : Nat → Prop) (s : Dv) (x : Int) (w : World) (h : DvAt w B F s) (hg : GoodD s) :
 Calls Tryz.prog 99 #[.pointer (some ⟨B, 0, none⟩), .int .i64 x] w fun e w' => e = .returned (.bool (hasD s x)) ∧ w' = w := by
 obtain ⟨C, M, v0, hR⟩ := h
 obtain ⟨⟨c0, c1, c2, c3, c4, c5⟩, fz⟩ := hR.cells
 obtain ⟨A, cap, rfl, _⟩ := hR.last.form
 have hlen := hg.len
 clear hR fz c1 c2 c3 c4 c5 hg
 obtain ⟨L, c, f, n, dead, fuse, steps⟩ := s
 simp only [hasD] at *
 generalize L.length = N at *
 by_cases k1 : 0 ≤ x
 rotate_left
 ·have e1 := decide_eq_false k1
  rw [e1]
  replace k1 : x < 0 := by omega
  clear e1
  go_enter Tryz.func99, Tryz.ntmps99
  go_wp2_with fail
  go_ret
  exact ⟨rfl, rfl⟩
 have e1 := decide_eq_true k1
 by_cases k2 : x < (N : Int)
 ·have e2 := decide_eq_true k2
  rw [e1, e2]
  clear e1 e2
  go_enter Tryz.func99, Tryz.ntmps99
  go_wp2_with fail
  go_ret
  exact ⟨rfl, rfl⟩
 have e2 := decide_eq_false k2
 rw [e1, e2]
 replace k2 : (N : Int) ≤ x := by omega
 clear e1 e2
 go_enter Tryz.func99, Tryz.ntmps99
 go_wp2_with fail
 go_ret
 exact ⟨ret_b (by simp; omega), rfl⟩
theorem dSteps (B : Nat) (F : Nat → Prop) (s : Dv) (w : World) (h : DvAt w B F s) :
 Calls Tryz.prog 43 #[.pointer (some ⟨B, 0, none⟩)] w fun e w' => e = .returned (.int .i64 s.steps) ∧ w' = w := by
 obtain ⟨C, M, v0, hR⟩ := h
 obtain ⟨⟨c0, c1, c2, c3, c4, c5⟩, fz⟩ := hR.cells
 clear hR fz c0 c1 c2 c3 c4
 obtain ⟨L, c, f, n, dead, fuse, steps⟩ := s
 simp only [] at *
 go_enter Tryz.func43, Tryz.ntmps43
 go_wp2_with fail
 go_ret
 exact ⟨rfl, rfl⟩
theorem dStep (B : Nat) (F : Nat → Prop) (s : Dv) (w : World) (h : DvAt w B F s) (hg : GoodD s) :
 Calls Tryz.prog 100 #[.pointer (some ⟨B, 0, none⟩)] w fun e w' => e = .returned (.bool (doneD s)) ∧ DvAt w' B F (stepD s) ∧ Chg F w w' := by
 obtain ⟨C, M, v0, hR⟩ := h
 obtain ⟨⟨c0, c1, c2, c3, c4, c5⟩, fz⟩ := hR.cells
 have f3 := fz 3
 have f4 := fz 4
 have f5 := fz 5
 have hF := lh hR.fB
 have hst := hg.st
 have hst0 := hg.st0
 have hfu := hg.fu
 have hfu0 := hg.fu0
 have hcs : Hid (∀ (w' : World) (o : Nat) (v : Value), Chg F w w' → Chg F w (w'.setCell ⟨B, o, none⟩ v)) := fun w' o v hc => hc.trans (Chg.setCell w' B o v hF.out) (fun j q => .inl q)
 have hch := lh (Chg.refl F w)
 clear fz c0 c1 c2 hg
 obtain ⟨L, c, f, n, dead, fuse, steps⟩ := s
 simp only [doneD, stepD] at *
 cases dead with
 | true =>
   replace hR := lh hR
   go_enter Tryz.func100, Tryz.ntmps100
   go_wp2_with fail
   go_ret
   exact ⟨rfl, ⟨_, _, _, hR.out⟩, hch.out⟩
 | false =>
   by_cases k1 : fuse = 1
   ·subst k1
    have hP := lh ((hR.put (o := 4) (u := .int .i64 0) (s' := ⟨L, c, f, n, false, 0, steps⟩) rfl rfl rfl rfl rfl).put (o := 3) (u := .bool true) (s' := ⟨L, c, f, n, true, 0, steps⟩) rfl rfl rfl rfl rfl)
    clear hR
    go_enter Tryz.func100, Tryz.ntmps100
    go_wp2_with fail
    go_ret
    exact ⟨rfl, ⟨_, _, _, hP.out⟩, hcs _ _ _ (hcs _ _ _ hch.out)⟩
   simp only [if_neg k1, decide_eq_false k1]
   by_cases k2 : 0 < fuse
   ·obtain ⟨d, hd⟩ : ∃ d, fuse - 1 = d := ⟨_, rfl⟩
    have k3 : ¬ d = 0 := by omega
    have hP := lh (((hR.put (o := 4) (u := .int .i64 d) (s' := ⟨L, c, f, n, false, d, steps⟩) rfl rfl rfl rfl rfl).put (o := 3) (u := .bool false) (s' := ⟨L, c, f, n, false, d, steps⟩) rfl rfl rfl rfl rfl).put (o := 5) (u := .int .i64 (steps + 1)) (s' := ⟨L, c, f, n, false, d, steps + 1⟩) rfl rfl rfl rfl rfl)
    have hm : max d 0 = d := by omega
    rw [hd, hm]
    replace hm := lh hm
    clear hR k1
    go_enter Tryz.func100, Tryz.ntmps100
    go_wp2_with fail
    go_ret
    exact ⟨rfl, ⟨_, _, _, hP.out⟩, hcs _ _ _ (hcs _ _ _ (hcs _ _ _ hch.out))⟩
   obtain rfl : fuse = 0 := by omega
   have hP := lh (hR.put (o := 5) (u := .int .i64 (steps + 1)) (s' := ⟨L, c, f, n, false, 0, steps + 1⟩) rfl rfl rfl rfl rfl)
   have hm : max ((0 : Int) - 1) 0 = 0 := by omega
   rw [hm]
   clear hR k1
   go_enter Tryz.func100, Tryz.ntmps100
   go_wp2_with fail
   go_ret
   exact ⟨rfl, ⟨_, _, _, hP.out⟩, hcs _ _ _ hch.out⟩
end Go.Proofs.YtkkbngcgphlikaaGreatDoor
end
section
namespace Go.Proofs.YtkkbngcgphlikaaGreatDoor
open Go.RowKit Go.ChangeShapes Go.WideShapes Go.Deep Go.Maps Go.Sort Go.Shelf
attribute [local go_sem] Oper.semAt_some
structure KeysU (g : Gu) (L : List Int) : Prop where
 inc : L.Pairwise (· < ·)
 mem : ∀ x, x ∈ L ↔ ∃ f, g x = some f
theorem KeysU.uniq {g : Gu} {L J : List Int} (h : KeysU g L) (h2 : KeysU g J) : L = J := by
 have hp : L.Perm J := (List.perm_ext_iff_of_nodup (h.inc.imp (fun {a b} hab e => by omega)) (h2.inc.imp (fun {a b} hab e => by omega))).2 fun x => by rw [h.mem, h2.mem]
 exact hp.eq_of_pairwise (le := (· < ·)) (fun a b _ _ h1 h2 => by omega) h.inc h2.inc
def keysL (N : Nat) (g : Gu) : List Int := ((List.range N).map Int.ofNat).filter (fun x => (g x).isSome)
theorem keysL_keys (N : Nat) (g : Gu) (h : ∀ x a, g x = some a → 0 ≤ x ∧ x < N) : KeysU g (keysL N g) := by
 constructor
 ·unfold keysL
  refine List.Pairwise.filter _ (List.pairwise_map.2 (List.pairwise_lt_range.imp (fun {a b} hab => ?_)))
  simp only [Int.ofNat_eq_natCast]; omega
 intro x
 unfold keysL
 rw [List.mem_filter, List.mem_map, Option.isSome_iff_exists]
 constructor
 ·rintro ⟨_, q⟩; exact q
 rintro ⟨a, q⟩
 obtain ⟨h1, h2⟩ := h x a q
 exact ⟨⟨x.toNat, List.mem_range.2 (by omega), by simp only [Int.ofNat_eq_natCast]; omega⟩, a, q⟩
theorem keysL_len (N : Nat) (g : Gu) : (keysL N g).length ≤ N := by
 unfold keysL
 refine Nat.le_trans (List.length_filter_le _ _) (by simp)
theorem KeysU_any (M : Nat) (w : World) : Calls Tryz.prog 153 #[.map (some M)] w fun e w' =>
 e = .returned (.func (.func 182) #[] #[.pointer (some ⟨w.heap.size, 0, none⟩)]) ∧ w' = w.alloc (.cells #[.map (some M)] 101) :=
 callsIn_wide.1 (AnyZI.keys_in keysU Fence.wide 5 trivial rfl (some M) w)
theorem SortedU_any (M b n : Nat) (g : Gu) (w : World) (hm : MapU w M n g) (hb : w.cell? ⟨b, 0, none⟩ = some (.map (some M))) (hn : n ≤ 1000000) :
 Calls Tryz.prog 152 #[.func (.func 182) #[] #[.pointer (some ⟨b, 0, none⟩)]] w fun e w' =>
  ∃ v L, e = .returned v ∧ OwnE 3 1 iE w' w.heap.size v L ∧ KeysU g L ∧ L.length ≤ n ∧ Below w.heap.size w w' := by
 obtain ⟨D, ho, hp⟩ := hm
 have hbl := World.block_lt_of_cell? _ _ hb
 obtain ⟨kn, km, kl⟩ := keys_facts ho tlaw Tryz.underlying3
 have hsz := ho.size_le
 have hseq : SeqGives Fence.wide 2 Tryz.prog 182 #[.pointer (some ⟨b, 0, none⟩)] encZ (fun ss => ss.Perm (intKeys D)) (Maps.size D) w :=
  AnyZI.keys_gives (ρ := keysU_ren) { keysU with } Fence.wide _ trivial rfl (by omega) b M n D w hbl hb ho
 have cS := AnyZI.sorted_in sortedA Fence.wide 5 trivial trivial trivial trivial rfl (by omega) (sortsA _) (enters_of Tryz.func181 (by kernel_rfl) rfl) 182 #[.pointer (some ⟨b, 0, none⟩)] trivial (enters_of Tryz.func182 (by kernel_rfl) rfl) _ _ (by unfold maxLen; omega) (by omega) _ hseq
 change CallsIn _ _ Tryz.prog 152 _ _ _ at cS
 refine (callsIn_wide.1 cS).mono ?_
 rintro e w' ⟨v, ss, rfl, hS, hrow, _, hbw⟩
 have hnd : ss.Nodup := hS.nodup_iff.2 kn
 have hlen : ss.length ≤ n := by rw [hS.length_eq]; exact kl
 refine ⟨v, ss.mergeSort fun x y => decide (x ≤ y), rfl, ?_, ⟨sort_inc hnd, fun x => ?_⟩, by rw [List.length_mergeSort]; exact hlen, hbw⟩
 ·unfold OwnE
  rw [iE_map, List.length_mergeSort]
  exact hrow
 rw [(List.mergeSort_perm ss _).mem_iff, hS.mem_iff, km]
 constructor
 ·intro h
  have hw := intKeys_wf ho Tryz.underlying3 x ((km x).2 h)
  rw [hp.has x (wf_I64 hw)] at h
  exact Option.isSome_iff_exists.1 h
 rintro ⟨f, hf⟩
 rw [hp.has x (hp.got x f hf).1, hf]; rfl
def Kq (n₀ Bo : Nat) (X Y : World) : Prop := X.heap.size ≤ Y.heap.size ∧ (∀ b cs t f, n₀ ≤ b → X.heap[b]? = some (.cells cs t f) → ¬ OwnAt X Bo b → Y.heap[b]? = X.heap[b]?) ∧ (∀ b, b < X.heap.size → OwnAt Y Bo b → OwnAt X Bo b) ∧ (OwnLt X Bo → OwnLt Y Bo)
theorem kq_t {n₀ Bo : Nat} {X Y Z : World} (h : Kq n₀ Bo X Y) (k : Kq n₀ Bo Y Z) : Kq n₀ Bo X Z :=
 ⟨Nat.le_trans h.1 k.1, fun b cs t f hn hb ho => by
   have h1 := h.2.1 b cs t f hn hb ho
   have hlt := (Array.getElem?_eq_some_iff.1 hb).1
   exact (k.2.1 b cs t f hn (h1.trans hb) (fun q => ho (h.2.2.1 b hlt q))).trans h1,
  fun b hlt q => h.2.2.1 b hlt (k.2.2.1 b (Nat.lt_of_lt_of_le hlt h.1) q), fun q => k.2.2.2 (h.2.2.2 q)⟩
theorem kq_b {n₀ Bo : Nat} {w : World} (hB : Bo < w.heap.size) (W : World) (l : Nat) (o o' : Obj) (hl : w.heap.size ≤ l) (h : W.heap[l]? = some o) (h1 : o.isCells = false) (h2 : o.isWalk = false) : Kq n₀ Bo W (W.putObj l o') := by
 have hg := grownBy_putObj' W l o'
 have hlt := (Array.getElem?_eq_some_iff.1 h).1
 have hc : (W.putObj l o').cell? ⟨Bo, 0, none⟩ = W.cell? ⟨Bo, 0, none⟩ := World.cell?_of_block (hg.block Bo (by omega) (fun e => by cases e; omega))
 have ho : ∀ b, OwnAt (W.putObj l o') Bo b ↔ OwnAt W Bo b := fun b => by unfold OwnAt; rw [hc]
 refine ⟨hg.size, fun b cs t f hn hb _ => hg.block b (Array.getElem?_eq_some_iff.1 hb).1 (fun e => ?_), fun b _ q => (ho b).1 q, fun q b hb => Nat.lt_of_lt_of_le (q b ((ho b).1 hb)) hg.size⟩
 cases e
 rw [hb] at h
 cases h
 simp [Obj.isCells] at h1
theorem kq_chg {n₀ Bo : Nat} {S : Nat → Prop} {X Y : World} (h : Chg S X Y) (hS : ∀ k, S k → k < n₀ ∧ k ≠ Bo) (hB : Bo < X.heap.size) : Kq n₀ Bo X Y := by
 have hc : Y.cell? ⟨Bo, 0, none⟩ = X.cell? ⟨Bo, 0, none⟩ := World.cell?_of_block (h.block Bo hB (fun q => (hS _ q).2 rfl))
 have ho : ∀ b, OwnAt Y Bo b ↔ OwnAt X Bo b := fun b => by unfold OwnAt; rw [hc]
 exact ⟨h.size, fun b cs t f hn hb _ => h.block b (Array.getElem?_eq_some_iff.1 hb).1 (fun q => by have := (hS _ q).1; omega), fun b _ q => (ho b).1 q, fun q b hb => Nat.lt_of_lt_of_le (q b ((ho b).1 hb)) h.size⟩
theorem kq_body {n₀ Bo : Nat} {W w1 : World} {v v' : Value} {o : Obj} {t : TypeId} (hc : Boxed W Bo t v) (hn : Bo < n₀) (hg : (W.alloc o).grownBy w1 v.ownBlock) (hl : v'.ownBlock = v.ownBlock ∨ v'.ownBlock = some (W.alloc o).heap.size) (hne : some Bo ≠ v.ownBlock)
 (hlt : ∀ g, v'.ownBlock = some g → g < w1.heap.size) : Kq n₀ Bo W (w1.setCell ⟨Bo, 0, none⟩ v') := by
 have hY : Boxed (w1.setCell ⟨Bo, 0, none⟩ v') Bo t v' := ((hc.alloc o).kept hg hne).set v'
 have hs := hg.size
 simp only [World.size_alloc] at hs
 have hcl := hc.lt
 refine ⟨by rw [size_setCell]; omega, fun b cs tt f hbn hbk ho => ?_, fun b hbl q => ?_, fun _ => ownLt_of hY (fun b q => by have := hlt b q; simpa using this)⟩
 ·have hbl := (Array.getElem?_eq_some_iff.1 hbk).1
  rw [Below.heap_setCell w1 ⟨Bo, 0, none⟩ v' b (fun e => by simp only [] at e; omega), hg.block b (by simp; omega) (fun q => ho ((ownAt_iff hc).2 q.symm)), Below.heap_alloc W o b hbl]
 have q1 := (ownAt_iff hY).1 q
 rcases hl with hl | hl
 ·exact (ownAt_iff hc).2 (hl ▸ q1)
 rw [hl] at q1
 simp at q1; omega
def SR (K : List Int) (n₀ Bo : Nat) (A : Option Addr) (cap : Nat) (w : World) : Prop := ∀ i, i < K.length → ∃ g cs t f, A = some ⟨g, 0, none⟩ ∧ K.length ≤ cap ∧ n₀ ≤ g ∧ w.heap[g]? = some (.cells cs t f) ∧ ¬ OwnAt w Bo g ∧ cs[i]? = some (.int .i64 (K.getD i 0))
theorem SR.kq {K : List Int} {n₀ Bo cap : Nat} {A : Option Addr} {w w1 : World} (h : SR K n₀ Bo A cap w) (hk : Kq n₀ Bo w w1) : SR K n₀ Bo A cap w1 := fun i hi => by
 obtain ⟨g, cs, t, f, hA, hc, hg, hb, ho, hx⟩ := h i hi
 exact ⟨g, cs, t, f, hA, hc, hg, (hk.2.1 g cs t f hg hb ho).trans hb, fun q => ho (hk.2.2.1 g (Array.getElem?_eq_some_iff.1 hb).1 q), hx⟩
theorem SR.of {K : List Int} {n₀ Bo : Nat} {v : Value} {w : World} {base : Nat} (h : OwnE 3 1 iE w base v K) (hn : n₀ ≤ base) (ho : ∀ g, base ≤ g → ¬ OwnAt w Bo g) : ∃ A cap, v = .slice A K.length cap ∧ SR K n₀ Bo A cap w := by
 have h' := h
 rcases h.2 with ⟨hv, h0⟩ | ⟨g, cap, cur, hv, hb, hg, h1, h2, h3, h4⟩
 ·exact ⟨none, 0, by rw [hv, h0], fun i hi => by omega⟩
 refine ⟨_, _, hv, fun i hi => ⟨g, cur, _, _, rfl, h1, by omega, hg, ho g hb, ?_⟩⟩
 rw [iE_map, Nat.mul_one] at h4
 have h5 : (cur.toList.take K.length)[i]? = (K.map encZ)[i]? := by rw [h4]
 rw [List.getElem?_take_of_lt hi, List.getElem?_map, List.getElem?_eq_getElem hi, Array.getElem?_toList] at h5
 rw [h5, List.getD_eq_getElem?_getD, List.getElem?_eq_getElem hi]
 rfl
theorem places_in_pm (n : Nat) (M : Nat) (w : World) :
 CallsIn Fence.wide n Tryz.prog 106 #[.map (some M)] w fun e w' => e = .returned (.func (.func 151) #[] #[.pointer (some ⟨w.heap.size, 0, none⟩)]) ∧ w.alloc (.cells #[.map (some M)] 101) = w' := by
 refine callsIn_wide.2 ?_
 go_enter Tryz.func106, Tryz.ntmps106
 go_wp2
 go_ret
 exact ⟨rfl, rfl⟩
abbrev Key_pm (g : Gu) := { y : Int // ∃ a, g y = some a }
def keysOf (g : Gu) (K : List Int) (h : KeysU g K) : List (Key_pm g) := K.attachWith _ (fun x hx => (h.mem x).1 hx)
theorem keysOf_map (g : Gu) (K : List Int) (h : KeysU g K) : (keysOf g K h).map (fun y => y.1) = K := by
 unfold keysOf
 have := List.attachWith_map_val (f := fun y : Int => y) (l := K) (p := fun y => ∃ a, g y = some a) (fun x hx => (h.mem x).1 hx)
 rw [List.map_id'] at this
 exact this
theorem pl1_in_pm (n : Nat) (hn : 1 ≤ n) (l Bo Bm n₀ M k0 : Nat) (g : Gu) (K : List (Key_pm g)) (hK : KeysU g (K.map fun y => y.1)) (J Jx : List (Key_pm g) → World → Prop)
 (hJ : ∀ pre W1 W2, J pre W1 → Below W1.heap.size W1 W2 → J pre W2)
 (hY : ∀ pre (y : Key_pm g) W, J pre W → pre.length < K.length → YieldAt Fence.wide (n - 1) Tryz.prog l #[.int .i64 y.1] W fun e W' =>
   (e = .returned (.bool true) ∧ J (pre ++ [y]) W' ∧ Kq n₀ Bo W W') ∨ (e = .returned (.bool false) ∧ Jx (pre ++ [y]) W'))
 (W : World) (hBo : Bo < W.heap.size) (hOl : OwnLt W Bo) (hBm : W.cell? ⟨Bm, 0, none⟩ = some (.map (some M))) (hm : MapU W M k0 g) (hk0 : k0 ≤ 1000000) (hn₀ : n₀ ≤ W.heap.size)
 (h0 : J [] W) :
 CallsIn Fence.wide n Tryz.prog 151 #[.func (.yield l) #[] #[], .pointer (some ⟨Bm, 0, none⟩)] W fun e W' => (∃ v, e = .returned v) ∧
  ((∃ ys, ys = K ∧ J ys W') ∨ (∃ pre, pre <+: K ∧ Jx pre W')) := by
 replace hJ := lh hJ
 replace hY := lh hY
 have hA1 : Below W.heap.size W (W.alloc (.cells #[.map (some M)] 101)) := bZ _ _
 have hS := SortedU_any M W.heap.size k0 g _ (hm.keep hA1) (cell_blk (World.alloc_heap_new W _) rfl).1 hk0
 have hKy := KeysU_any M W
 clear hm
 refine callsIn_of_wp Tryz.func151 rfl trivial ?_ rfl
 simp only [Tryz.ntmps151, List.size_toArray, List.length_cons, List.length_nil, Nat.reduceAdd, Nat.reduceSub, Array.replicate_succ, Array.replicate_zero, List.push_toArray, List.append_toArray, List.nil_append, List.cons_append]
 gi_wp2
 refine ⟨trivial, (callsIn_wide.2 hKy).mono ?_⟩
 rintro e w1 ⟨rfl, rfl⟩
 gi_wp2
 refine ⟨trivial, (callsIn_wide.2 hS).mono ?_⟩
 rintro e w2 ⟨v, L, rfl, hO, hKL, hLn, hb2⟩
 obtain rfl : L = K.map (fun y => y.1) := hKL.uniq hK
 have hb02 := hA1.trans (hb2.mono (by simp))
 obtain ⟨A, cap, rfl, hSR⟩ := SR.of (n₀ := n₀) (Bo := Bo) hO (by simp; omega) (fun g hg q => by
  have q1 := hOl g ((ownAt_keep hb02 hBo).1 q)
  simp at hg; omega)
 have hJ2 := hJ.out [] W w2 h0 hb02
 have hKn := lh (show ∀ i (hi : i < K.length), K.take (i + 1) = K.take i ++ [K[i]] ∧ (K.map fun y => y.1).getD i 0 = K[i].1 from fun i hi => ⟨List.take_succ_eq_append_getElem hi, by rw [List.getD_eq_getElem?_getD, List.getElem?_map, List.getElem?_eq_getElem hi]; rfl⟩)
 have hTk := lh (show K.take K.length = K from List.take_length)
 have hPr := lh (fun i => List.take_prefix i K)
 obtain ⟨m, hmm⟩ : ∃ m, K.length = m := ⟨_, rfl⟩
 have hml : (K.map fun y => y.1).length = m := by rw [List.length_map, hmm]
 have hSRk := lh (fun (w w' : World) (h : SR (K.map fun y => y.1) n₀ Bo A cap w) (hk : Kq n₀ Bo w w') => h.kq hk)
 replace hSR := lh hSR
 have hTl := lh (fun i (hi : i ≤ m) => show (K.take i).length = i from by rw [List.length_take]; omega)
 have hm6 : m ≤ 1000000 := by omega
 rw [hml]
 replace hmm := lh hmm
 replace hml := lh hml
 clear hS hKy hA1 hO hKL hK hLn hb2 hb02 h0 hBm hOl
 gi_wp2
 gi_loopw [9] (fun x wr => ∃ (k : Nat), k ≤ m ∧ x = .int .i64 k ∧ Hid (J (K.take k) wr) ∧ Hid (SR (K.map fun y => y.1) n₀ Bo A cap wr))
  (fun x wr => m + 1 - (intOf x).toNat)
 case atStart => exact ⟨0, Nat.zero_le _, rfl, hJ2, hSR⟩
 clear hJ2 hSR
 obtain ⟨k, hk, rfl, hJk, hSk⟩ := hrel
 by_cases hlt : k < m
 rotate_left
 ·obtain rfl : k = m := by omega
  gi_wp2
  go_end0
  have hJd := hJk.out
  rw [List.take_of_length_le (by rw [hmm.out]; exact Nat.le_refl _)] at hJd
  exact ⟨⟨_, rfl⟩, .inl ⟨_, rfl, hJd⟩⟩
 obtain ⟨g1, cs, t, f, hA, hcap, hg1, hb1, ho1, hx⟩ := hSk.out k (by rw [hml.out]; exact hlt)
 subst hA
 rw [hml.out] at hcap
 have hlt' : (k : Int) < (m : Int) := by omega
 have hgl := (Array.getElem?_eq_some_iff.1 hb1).1
 have hkm : k < K.length := by rw [hmm.out]; exact hlt
 obtain ⟨hn1, hn2⟩ := hKn.out k hkm
 rw [hn2] at hx
 obtain ⟨fn, tmps, assign, body, hy, hR⟩ := hY.out (K.take k) K[k] wr hJk.out (by rw [hTl.out k hk, hmm.out]; exact hlt)
 rw [← hn1] at hR
 generalize K[k] = y at *
 obtain ⟨y, hya⟩ := y
 simp only [] at hx hy hR
 have c0 : wr.cell? ⟨g1, k, none⟩ = some (.int .i64 y) := by simp [World.cell?, hb1, hx]
 replace hkm := lh hkm
 clear hb1 hx ho1 hn1 hn2 hya
 gi_wp2
 refine hR.mono ?_
 rintro e W3 (⟨rfl, hJ3, hk3⟩ | ⟨rfl, hJx3⟩)
 ·have hS3 := hSRk.out _ _ hSk.out hk3
  clear c0 hJk hSk hR hy
  gi_wp2
  go_roundw
  case rel => exact ⟨k + 1, by omega, by go_num, hJ3, hS3⟩
  simp [intOf]; omega
 gi_wp2
 refine bodyPost_ret (results_none rfl _ _ _) rfl ?_
 exact ⟨⟨_, rfl⟩, .inr ⟨_, hPr.out _, hJx3⟩⟩
theorem pl_stops_pm (n : Nat) (hn : 1 ≤ n) (Bo Bm n₀ M k0 : Nat) (g : Gu) (K : List (Key_pm g)) (hK : KeysU g (K.map fun y => y.1)) (w : World) (hBo : Bo < w.heap.size) (hOl : OwnLt w Bo) (hBm : w.cell? ⟨Bm, 0, none⟩ = some (.map (some M))) (hm : MapU w M k0 g) (hk0 : k0 ≤ 1000000) (hn₀ : n₀ ≤ w.heap.size) :
 SeqStopsK Fence.wide n Tryz.prog 151 #[.pointer (some ⟨Bm, 0, none⟩)] (fun y : Key_pm g => #[.int .i64 y.1]) (Kq n₀ Bo) (fun ys => ys = K) (fun pre => pre <+: K) K.length w := fun l J Jx W hW hJ _ hY h0 =>
 pl1_in_pm n hn l Bo Bm n₀ M k0 g K hK J Jx (fun pre W1 W2 hj hb => hJ pre W1 W2 none hj ⟨hb.os, hb.tape, hb.output, hb.size, fun k hk _ => hb.block k hk⟩ (fun r e => by cases e)) hY W (Nat.lt_of_lt_of_le hBo hW.size) (fun b q => Nat.lt_of_lt_of_le (hOl b ((ownAt_keep hW hBo).1 q)) hW.size) ((hW.cell (p := ⟨Bm, 0, none⟩) (World.block_lt_of_cell? _ _ hBm)).trans hBm) (hm.keep hW) hk0 (Nat.le_trans hn₀ hW.size) h0
end Go.Proofs.YtkkbngcgphlikaaGreatDoor
end
section
namespace Go.Proofs.YtkkbngcgphlikaaGreatDoor
open Go.RowKit Go.ChangeShapes Go.WideShapes Go.Deep Go.Maps Go.Sort Go.Shelf
attribute [local go_sem] Oper.semAt_some
theorem dirty_in (n : Nat) (hn : 3 ≤ n) (B : Nat) (F : Nat → Prop) (s : Dv) (w : World) (h : DvAt w B F s) (hg : GoodD s) :
 CallsIn Fence.wide n Tryz.prog 44 #[.pointer (some ⟨B, 0, none⟩)] w fun e w' => ∃ v, e = .returned v ∧ OwnE 3 1 iE w' w.heap.size v (keysL s.L.length s.c) ∧ Below w.heap.size w w' := by
 have hn1 : 1 ≤ n := by omega
 obtain ⟨C, M, v0, hR⟩ := h
 obtain ⟨⟨c0, c1, c2, c3, c4, c5⟩, fz⟩ := hR.cells
 have hKs := lh (keysL_keys s.L.length s.c hg.cin)
 have hKl := keysL_len s.L.length s.c
 have hlen := hg.len
 have hsn := lh hg.n
 generalize keysL s.L.length s.c = K0 at *
 have hK2 := keysOf_map s.c K0 hKs.out
 generalize keysOf s.c K0 hKs.out = K at *
 subst hK2
 rw [List.length_map] at hKl
 have hCm := lh hR.cach
 have hCl := lh (hR.lt _ hR.fC)
 have hBlt := hR.lt _ hR.fB
 clear hR fz c0 c2 c3 c4 c5 hg
 refine callsIn_of_wp_marks Tryz.func44 rfl trivial ?_ rfl
 simp only [Tryz.ntmps44, List.size_toArray, List.length_cons, List.length_nil, Nat.reduceAdd, Nat.reduceSub, Array.replicate_succ, Array.replicate_zero, List.push_toArray, List.append_toArray, List.nil_append, List.cons_append]
 gi_wp2
 refine ⟨trivial, (places_in_pm (n - 1) C _).mono ?_⟩
 rintro e w' ⟨rfl, rfl⟩
 gi_wp2
 have bO := (Boxed.new w 84 (.slice none 0 0)).alloc (.cells #[.map (some C)] 101)
 have bM := Boxed.new (w.alloc (.cells #[.slice none 0 0] 84)) 101 (.map (some C))
 have hB0 : Below w.heap.size w ((w.alloc (.cells #[.slice none 0 0] 84)).alloc (.cells #[.map (some C)] 101)) := (bZ w _).alloc (by simp) _
 have hsz : ((w.alloc (.cells #[.slice none 0 0] 84)).alloc (.cells #[.map (some C)] 101)).heap.size = w.heap.size + 2 := by simp
 simp only [World.size_alloc] at bO bM
 obtain ⟨W0, hW0⟩ : ∃ W0, W0 = (((w.alloc (.cells #[.slice none 0 0] 84)).alloc (.cells #[.map (some C)] 101)) : World) := ⟨_, rfl⟩
 rw [← hW0] at bO bM hB0 hsz ⊢
 clear hW0
 have hCm0 := hCm.out.keep hB0
 refine wpIn_rangeFunc_ownG rfl hn1 (gf := 151) (lb := #[.pointer (some ⟨w.heap.size + 1, 0, none⟩)]) rfl trivial (enters_of Tryz.func151 (by kernel_rfl) rfl)
  (pl_stops_pm (n - 1) (by omega) w.heap.size (w.heap.size + 1) (w.heap.size + 2) C s.n s.c K hKs.out W0 (by omega) (ownLt_of bO (by simp [Value.ownBlock])) bM.cell hCm0 (by have := hsn.out; omega) (by omega))
  kq_t (kq_b (by omega)) (Below.refl _ _) (fun _ => rfl)
  (fun pre W => (∃ v, Boxed W w.heap.size 84 v ∧ W.ownsRow w.heap.size 3 1 v (pre : List (Key_pm s.c)).length ((pre.map fun y => y.1).flatMap iE) ∧ True) ∧ Below w.heap.size w W)
  (fun _ _ _ => False)
  (OwnFrom.and (Own.from (holdsRow_own w.heap.size w.heap.size 84 3 1 (fun pre : List (Key_pm s.c) => pre.length) (fun pre => (pre.map fun y => y.1).flatMap iE) (fun pre v => True)) _) (ownFrom_below (Nat.le_refl _) (by omega)))
  (fun _ _ _ _ _ hs _ _ => hs)
  ⟨⟨_, bO, World.ownsRow_nil _ _ _ _, trivial⟩, hB0⟩
  (fun y => { tmps := #[.pointer (some ⟨B, 0, none⟩), undef, .slice none 0 0, .pointer (some ⟨w.heap.size, 0, none⟩), .int .i64 y.1, .pointer (some ⟨B, 0, none⟩), .pointer (some ⟨B, 0, none⟩), .pointer (some ⟨B, 1, none⟩), .map (some C), .func (.func 151) #[] #[.pointer (some ⟨w.heap.size + 1, 0, none⟩)], .int .i64 y.1, undef, undef, undef, undef, undef], defers := [] }) ?assign ?body ?done ?stop
 case assign =>
  intro l y W Kc hK
  gi_wp2
  simpa using hK
 case body =>
  rintro l pre y W ⟨⟨v, hv, hrow, _⟩, hB⟩ hlt
  have hc := hv.cell
  have hpl : pre.length ≤ 1000000 := by omega
  have hne := hv.not_row (e := 3) (by decide) hrow
  have hrow' : OwnE 3 1 iE (W.alloc (.cells #[.int .i64 y.1] (3 : Nat))) w.heap.size v (pre.map fun y => y.1) := by
   refine OwnE.alloc ?_ _
   unfold OwnE
   rw [List.length_map]
   exact hrow
  obtain ⟨v', w1, hrun, hown', hgrow, hl2, _⟩ := appE iT_pm hrow' (one_int W y.1) (by have := hB.size; simp; omega) (by rw [List.length_map]; exact hpl) (by simp)
  obtain ⟨g', cap', rfl, _⟩ := hown'.form (by simp)
  unfold OwnE at hown'
  rw [show (pre.map fun y => y.1) ++ [y.1] = (pre ++ [y]).map fun y => y.1 by rw [List.map_append]; rfl, List.length_map] at *
  obtain ⟨hv1, hv2, hr2, hk2, hb2⟩ := hv.appended (by decide) hrow hB.size (Nat.le_refl _) hown' hgrow
  have hkq := kq_body (n₀ := w.heap.size + 2) hv (by omega) hgrow hl2 hne (fun g q => (hown'.lt g q).2)
  have hc1 := hv1.cell
  have hf1 := hv1.frozen
  clear hgrow hrow' hown'
  rw [List.length_append, List.length_singleton] at *
  gi_wp2_with (gi_at_builtin; refine wpListIn_append_run rfl _ _ 84 rfl _ _ _ rfl rfl hrun ?_)
  exact ⟨hk2.from _, hkq, ⟨_, hv2, by rw [List.length_append, List.length_singleton]; exact hr2, trivial⟩, hB.trans hb2⟩
 case done =>
  rintro D ys W hD rfl ⟨⟨v, hv, hrow, _⟩, hB⟩ hK
  have hc := hv.cell
  gi_wp2
  refine ⟨by simp, .inl ⟨_, _, rfl, run_takeDeferred hK, ?_⟩⟩
  exact ⟨_, results_tmp rfl _ _ _, v, rfl, (by unfold OwnE; rw [List.length_map]; exact ownsRow_putObj hrow (.deferred none) hK rfl), hB.trans (belowK_b (w := w) (Nat.le_refl _) W D _ _ (by omega) hK rfl rfl)⟩
 rintro D c pre W _ _ h _
 exact h.elim
theorem dDirty (B : Nat) (F : Nat → Prop) (s : Dv) (w : World) (h : DvAt w B F s) (hg : GoodD s) :
 Calls Tryz.prog 44 #[.pointer (some ⟨B, 0, none⟩)] w fun e w' => ∃ v, e = .returned v ∧ OwnE 3 1 iE w' w.heap.size v (keysL s.L.length s.c) ∧ Below w.heap.size w w' := callsIn_wide.1 (dirty_in 3 (by omega) B F s w h hg)
end Go.Proofs.YtkkbngcgphlikaaGreatDoor
end
section
namespace Go.Proofs.YtkkbngcgphlikaaGreatDoor
open Go.RowKit Go.ChangeShapes Go.WideShapes Go.Deep Go.Maps
def storeD (s : Dv) (x : Int) (v : Nat) : Dv := if hasD s x then (if doneD s then { stepD s with c := putU s.c x v, n := s.n + 1 } else stepD s) else s
def fuseD (s : Dv) (k : Int) : Dv := { s with fuse := max k 0 }
theorem hasD_I64 {s : Dv} (hg : GoodD s) {x : Int} (h : hasD s x = true) : I64 x := by
 have := hg.len
 simp only [hasD, Bool.and_eq_true, decide_eq_true_eq] at h
 constructor <;> omega
theorem dStore (B : Nat) (F : Nat → Prop) (s : Dv) (x : Int) (v : Nat) (w : World) (h : DvAt w B F s) (hg : GoodD s) :
 Calls Tryz.prog 35 #[.pointer (some ⟨B, 0, none⟩), .int .i64 x, .int .u64 (v : Nat)] w fun e w' => e = .returned (.tuple #[]) ∧ DvAt w' B F (storeD s x v) ∧ Chg F w w' := by
 have hH := dHas B F s x w h hg
 have hS := dStep B F s w h hg
 unfold storeD
 cases hq : hasD s x with
 | false =>
   rw [hq] at hH
   have hDv := lh h
   clear hS h
   go_enter Tryz.func35, Tryz.ntmps35
   go_wp2_with (go_at_call 99; refine hH.mono ?_; rintro e w1 ⟨rfl, rfl⟩; clear hH)
   go_end0
   exact ⟨rfl, hDv.out, Chg.refl _ _⟩
 | true =>
   have hx := lh (hasD_I64 hg hq)
   have hn := lh hg.n
   rw [hq] at hH
   have hse := lh (stepD_same s)
   cases hd : doneD s with
   | false =>
     rw [hd] at hS
     go_enter Tryz.func35, Tryz.ntmps35
     go_wp2_with (first
      | (go_at_call 99; refine hH.mono ?_; rintro e w1 ⟨rfl, rfl⟩; clear hH h)
      | (go_at_call 100; refine hS.mono ?_; rintro e w2 ⟨rfl, h2, hc2⟩; clear hS))
     go_end0
     exact ⟨rfl, h2, hc2⟩
   | true =>
     rw [hd] at hS
     go_enter Tryz.func35, Tryz.ntmps35
     go_wp2_with (first
      | (go_at_call 99; refine hH.mono ?_; rintro e w1 ⟨rfl, rfl⟩; clear hH h)
      | (go_at_call 100; refine hS.mono ?_; rintro e w2 ⟨rfl, h2, hc2⟩; clear hS
         obtain ⟨C, M, v0, hR⟩ := h2
         obtain ⟨⟨c0, c1, c2, c3, c4, c5⟩, fz⟩ := hR.cells
         obtain ⟨w3, hrun, hm3, hg3⟩ := hR.cach.put (f := v) hx.out (by rw [hse.out.2.2.2]; have := hn.out; unfold maxLen; omega)
         have hR3 := lh (hR.cTo hg3 hm3 (by omega))
         have hc3 := lh (hc2.trans (Chg.of_grown (S := F) hg3 (fun k e => by cases e; exact .inl hR.fC)) (fun j q => .inl q))
         clear hR c0 c2 c3 c4 c5 fz hm3 hg3 hc2))
     go_end0
     have hRR := hR3.out
     rw [hse.out.2.1, hse.out.2.2.2] at hRR
     exact ⟨rfl, ⟨_, _, _, hRR⟩, hc3.out⟩
theorem dFuse (B : Nat) (F : Nat → Prop) (s : Dv) (k : Int) (w : World) (h : DvAt w B F s) :
 Calls Tryz.prog 15 #[.pointer (some ⟨B, 0, none⟩), .int .i64 k] w fun e w' => e = .returned (.tuple #[]) ∧ DvAt w' B F (fuseD s k) ∧ Chg F w w' := by
 obtain ⟨C, M, v0, hR⟩ := h
 obtain ⟨⟨c0, c1, c2, c3, c4, c5⟩, fz⟩ := hR.cells
 have f4 := fz 4
 obtain ⟨d, hd⟩ : ∃ d, max k 0 = d := ⟨_, rfl⟩
 have hP := lh (hR.put (o := 4) (u := .int .i64 d) (s' := { s with fuse := d }) rfl rfl rfl rfl rfl)
 have hF := lh hR.fB
 clear hR fz c0 c1 c2 c3 c5
 unfold fuseD
 rw [hd]
 obtain ⟨L, c, f, n, dead, fuse, steps⟩ := s
 simp only [] at *
 have hm0 := hd
 have hm1 : (if k < 0 then (0 : Int) else k) = d := by rw [← hd]; split <;> omega
 have hm2 : (if (0 : Int) ≤ k then k else (0 : Int)) = d := by rw [← hd]; split <;> omega
 have hm3 : (if k ≤ 0 then (0 : Int) else k) = d := by rw [← hd]; split <;> omega
 clear hd
 go_enter Tryz.func15, Tryz.ntmps15
 go_wp2_with fail
 go_end0
 exact ⟨rfl, ⟨_, _, _, hP.out⟩, Chg.setCell _ _ _ _ hF.out⟩
theorem dLoad (B : Nat) (F : Nat → Prop) (s : Dv) (x : Int) (w : World) (h : DvAt w B F s) (hg : GoodD s) :
 Calls Tryz.prog 68 #[.pointer (some ⟨B, 0, none⟩), .int .i64 x] w fun e w' => e = .returned (.int .u64 (loadD s x : Nat)) ∧ w' = w := by
 have hH := dHas B F s x w h hg
 unfold loadD
 cases hq : hasD s x with
 | false =>
   rw [hq] at hH
   clear h
   go_enter Tryz.func68, Tryz.ntmps68
   go_wp2_with (go_at_call 99; refine hH.mono ?_; rintro e w1 ⟨rfl, rfl⟩; clear hH)
   go_ret
   exact ⟨rfl, rfl⟩
 | true =>
   rw [hq] at hH
   have hx := hasD_I64 hg hq
   obtain ⟨C, M, v0, hR⟩ := h
   obtain ⟨⟨c0, c1, c2, c3, c4, c5⟩, fz⟩ := hR.cells
   have hlk := hR.cach.look hx
   have hq2 := hq
   simp only [hasD, Bool.and_eq_true, decide_eq_true_eq] at hq2
   obtain ⟨i, rfl⟩ := Int.eq_ofNat_of_zero_le hq2.1
   have hi : i < s.L.length := by omega
   obtain ⟨A, cap, rfl, hA⟩ := hR.last.form
   obtain ⟨g, rfl, _, hglt⟩ := hA (by omega)
   have hcell := (hR.last.cell rfl hi).1
   have hi2 : (i : Int) < (s.L.length : Int) := by omega
   have hlen := hg.len
   clear hq hq2 hR hA fz c2 c3 c4 c5 hg hx hglt
   obtain ⟨L, c, f, n, dead, fuse, steps⟩ := s
   simp only [Int.toNat_natCast] at *
   generalize L.length = N at *
   generalize L.getD i 0 = y at *
   cases hc : c (i : Int) with
   | none =>
     rw [hc] at hlk
     simp only [Option.getD_none, Option.isSome_none] at *
     clear hc
     go_enter Tryz.func68, Tryz.ntmps68
     go_wp2_with (go_at_call 99; refine hH.mono ?_; rintro e w1 ⟨rfl, rfl⟩; clear hH)
     go_ret
     exact ⟨rfl, rfl⟩
   | some z =>
     rw [hc] at hlk
     simp only [Option.getD_some, Option.isSome_some] at *
     clear hc
     go_enter Tryz.func68, Tryz.ntmps68
     go_wp2_with (go_at_call 99; refine hH.mono ?_; rintro e w1 ⟨rfl, rfl⟩; clear hH)
     go_ret
     exact ⟨rfl, rfl⟩
theorem dImage (B : Nat) (F : Nat → Prop) (s : Dv) (w : World) (h : DvAt w B F s) (hl : s.L.length ≤ 1000) :
 Calls Tryz.prog 22 #[.pointer (some ⟨B, 0, none⟩)] w fun e w' => ∃ v, e = .returned v ∧ OwnU w' w.heap.size v s.L ∧ Below w.heap.size w w' := by
 obtain ⟨C, M, v0, hR⟩ := h
 obtain ⟨⟨c0, c1, c2, c3, c4, c5⟩, fz⟩ := hR.cells
 have hC := clone_any v0 s.L w (by omega) hR.last.kl
 obtain ⟨A, cap, rfl, _⟩ := hR.last.form
 clear hR fz c1 c2 c3 c4 c5
 obtain ⟨L, c, f, n, dead, fuse, steps⟩ := s
 simp only [] at *
 generalize hN : L.length = N at *
 go_enter Tryz.func22, Tryz.ntmps22
 go_wp2_with (go_at_call 66; refine hC.mono ?_; rintro e w1 ⟨v', rfl, ho, hb⟩; obtain ⟨A2, cap2, rfl, _⟩ := ho.form; clear hC)
 go_ret
 subst hN
 exact ⟨_, rfl, ho, hb⟩
end Go.Proofs.YtkkbngcgphlikaaGreatDoor
end
section
namespace Go.Proofs.YtkkbngcgphlikaaGreatDoor
open Go.RowKit Go.ChangeShapes Go.WideShapes Go.Deep Go.Maps
def evictD (s : Dv) (x : Int) : Dv :=
 if hasD s x then (if doneD s then (match s.c x with | some v => { stepD s with L := s.L.set x.toNat v, c := delU s.c x, f := delU s.f x } | none => stepD s) else stepD s) else s
theorem DvR.mono {F : Nat → Prop} {w : World} {B C M n : Nat} {v0 : Value} {s : Dv} (h : DvR w B C M v0 F s) (hn : s.n ≤ n) : DvR w B C M v0 F { s with n := n } :=
 ⟨h.blk, h.last, h.cach.mono hn, h.flus.mono hn, h.ne, h.fB, h.fC, h.fM, h.f0, h.lt⟩
theorem dEvict (B : Nat) (F : Nat → Prop) (s : Dv) (x : Int) (w : World) (h : DvAt w B F s) (hg : GoodD s) :
 Calls Tryz.prog 54 #[.pointer (some ⟨B, 0, none⟩), .int .i64 x] w fun e w' => e = .returned (.tuple #[]) ∧ DvAt w' B F (evictD s x) ∧ Chg F w w' := by
 have hH := dHas B F s x w h hg
 have hS := dStep B F s w h hg
 have hDv := lh h
 unfold evictD
 cases hq : hasD s x with
 | false =>
   rw [hq] at hH
   clear hS h
   go_enter Tryz.func54, Tryz.ntmps54
   go_wp2_with (go_at_call 99; refine hH.mono ?_; rintro e w1 ⟨rfl, rfl⟩; clear hH)
   refine bodyPost_ret (results_none rfl _ _ _) rfl ?_
   exact ⟨rfl, hDv.out, Chg.refl _ _⟩
 | true =>
   rw [hq] at hH
   rw [if_pos rfl]
   have hx := lh (hasD_I64 hg hq)
   have hse := lh (stepD_same s)
   cases hd : doneD s with
   | false =>
     rw [hd] at hS
     rw [if_neg (by simp)]
     clear h
     go_enter Tryz.func54, Tryz.ntmps54
     go_wp2_with (first
      | (go_at_call 99; refine hH.mono ?_; rintro e w1 ⟨rfl, rfl⟩; clear hH)
      | (go_at_call 100; refine hS.mono ?_; rintro e w2 ⟨rfl, h2, hc2⟩; clear hS))
     refine bodyPost_ret (results_none rfl _ _ _) rfl ?_
     exact ⟨rfl, h2, hc2⟩
   | true =>
     rw [hd] at hS
     rw [if_pos rfl]
     clear h
     have hlen := lh hg.len
     simp only [hasD, Bool.and_eq_true, decide_eq_true_eq] at hq
     obtain ⟨i, rfl⟩ := Int.eq_ofNat_of_zero_le hq.1
     have hi : i < s.L.length := by omega
     have hi2 : (i : Int) < (s.L.length : Int) := by omega
     clear hq hg
     cases hcx : s.c (i : Int) with
     | none =>
       go_enter Tryz.func54, Tryz.ntmps54
       go_wp2_with (first
        | (go_at_call 99; refine hH.mono ?_; rintro e w1 ⟨rfl, rfl⟩; clear hH)
        | (go_at_call 100; refine hS.mono ?_; rintro e w2 ⟨rfl, h2, hc2⟩; clear hS
           obtain ⟨C, M, v0, hR⟩ := h2
           obtain ⟨⟨c0, c1, c2, c3, c4, c5⟩, fz⟩ := hR.cells
           have hlk := hR.cach.look hx.out
           rw [hse.out.2.1, hcx] at hlk
           simp only [Option.getD_none, Option.isSome_none] at hlk
           replace hR := lh hR
           clear c0 c2 c3 c4 c5 fz))
       go_end0
       exact ⟨rfl, ⟨_, _, _, hR.out⟩, hc2⟩
     | some z =>
       go_enter Tryz.func54, Tryz.ntmps54
       go_wp2_with (first
        | (go_at_call 99; refine hH.mono ?_; rintro e w1 ⟨rfl, rfl⟩; clear hH)
        | (go_at_call 100; refine hS.mono ?_; rintro e w2 ⟨rfl, h2, hc2⟩; clear hS
           obtain ⟨C, M, v0, hR⟩ := h2
           have hi3 : i < (stepD s).L.length := by rw [hse.out.1]; exact hi
           have hi4 : (i : Int) < ((stepD s).L.length : Int) := by omega
           obtain ⟨⟨c0, c1, c2, c3, c4, c5⟩, fz⟩ := hR.cells
           have hlk := hR.cach.look hx.out
           rw [hse.out.2.1, hcx] at hlk
           simp only [Option.getD_some, Option.isSome_some] at hlk
           obtain ⟨A, cap, rfl, hA⟩ := hR.last.form
           obtain ⟨g, rfl, _, hgl⟩ := hA (by omega)
           have hgF := hR.f0 g rfl
           obtain ⟨e0, f0⟩ := hR.last.cell rfl hi3
           have hR3 := hR.lTo (x := z) rfl hi3
           obtain ⟨⟨d0, d1, d2, _, _, _⟩, _⟩ := hR3.cells
           obtain ⟨w4, hdel, hm4, hg4⟩ := hR3.cach.drop hx.out 0
           have hR4 := hR3.cTo hg4 hm4 (Nat.le_refl _)
           obtain ⟨⟨g0, g1, g2, _, _, _⟩, _⟩ := hR4.cells
           obtain ⟨w5, hdel2, hm5, hg5⟩ := hR4.flus.drop hx.out 0
           have hR5 := lh (hR4.fTo hg5 hm5 (Nat.le_refl _))
           have hc5 := lh (((hc2.trans (Chg.setCell w2 g i (.int .u64 (z : Nat)) hgF) (fun j q => .inl q)).trans (Chg.of_grown (S := F) hg4 (fun k e => by cases e; exact .inl hR.fC)) (fun j q => .inl q)).trans (Chg.of_grown (S := F) hg5 (fun k e => by cases e; exact .inl hR.fM)) (fun j q => .inl q))
           clear hR hR3 hR4 hm4 hg4 hm5 hg5 fz hA c2 c3 c4 c5 d0 g0 g1 hc2))
       go_end0
       have hRR := hR5.out
       rw [hse.out.1, hse.out.2.1, hse.out.2.2.1] at hRR
       exact ⟨rfl, ⟨_, _, _, hRR⟩, hc5.out⟩
def fl (s : Dv) (lo i : Int) : Gu := fun x => if lo ≤ x ∧ x < i then (match s.c x with | some v => some v | none => s.f x) else s.f x
theorem fl_none {s : Dv} {lo i : Int} (h : s.c i = none) : fl s lo (i + 1) = fl s lo i := by
 funext x
 unfold fl
 by_cases e : x = i
 ·subst e
  rw [h, if_neg (show ¬ (lo ≤ x ∧ x < x) by omega)]
  split <;> rfl
 have : (lo ≤ x ∧ x < i + 1) ↔ (lo ≤ x ∧ x < i) := by omega
 simp only [this]
theorem fl_some {s : Dv} {lo i : Int} {v : Nat} (hl : lo ≤ i) (h : s.c i = some v) : fl s lo (i + 1) = putU (fl s lo i) i v := by
 funext x
 unfold fl putU
 by_cases e : x = i
 ·subst e
  rw [h, if_pos (by omega), if_pos rfl]
 have : (lo ≤ x ∧ x < i + 1) ↔ (lo ≤ x ∧ x < i) := by omega
 simp only [this, if_neg e]
theorem fl_far {s : Dv} {lo i : Int} (h : i ≤ lo) : fl s lo i = s.f := by
 funext x
 unfold fl
 rw [if_neg (by omega)]
def flushD (s : Dv) (x many : Int) : Dv := if doneD s then { stepD s with f := fl s (max x 0) (min (x + many) s.L.length), n := s.n + s.L.length } else stepD s
theorem dFlush (B : Nat) (F : Nat → Prop) (s : Dv) (x many : Int) (w : World) (h : DvAt w B F s) (hg : GoodD s) (hx : -1099511627776 ≤ x ∧ x ≤ 1099511627776) (hm : -1099511627776 ≤ many ∧ many ≤ 1099511627776) :
 Calls Tryz.prog 75 #[.pointer (some ⟨B, 0, none⟩), .int .i64 x, .int .i64 many] w fun e w' => e = .returned (.tuple #[]) ∧ DvAt w' B F (flushD s x many) ∧ Chg F w w' := by
 have hS := dStep B F s w h hg
 have hse := lh (stepD_same s)
 unfold flushD
 cases hd : doneD s with
 | false =>
   rw [hd] at hS
   rw [if_neg (by simp)]
   clear h
   go_enter Tryz.func75, Tryz.ntmps75
   go_wp2_with (go_at_call 100; refine hS.mono ?_; rintro e w2 ⟨rfl, h2, hc2⟩; clear hS)
   refine bodyPost_ret (results_none rfl _ _ _) rfl ?_
   exact ⟨rfl, h2, hc2⟩
 | true =>
   rw [hd] at hS
   rw [if_pos rfl]
   clear h
   have hlen := hg.len
   have hsn := lh hg.n
   obtain ⟨lo, hlo⟩ : ∃ lo, max x 0 = lo := ⟨_, rfl⟩
   have hlo0 : 0 ≤ lo := by omega
   have hlox : x ≤ lo := by omega
   have hlob : lo ≤ 1099511627776 := by omega
   obtain ⟨N, hN⟩ : ∃ N, s.L.length = N := ⟨_, rfl⟩
   obtain ⟨hi, hhi⟩ : ∃ hi, min (x + many) (N : Int) = hi := ⟨_, rfl⟩
   have hhiN : hi ≤ N := by omega
   rw [hlo, hN, hhi]
   rw [hN] at hlen
   have hm1 : (if x < 0 then (0 : Int) else x) = lo := by rw [← hlo]; split <;> omega
   have hm2 : (if (0 : Int) ≤ x then x else (0 : Int)) = lo := by rw [← hlo]; split <;> omega
   have hm3 : (if x ≤ 0 then (0 : Int) else x) = lo := by rw [← hlo]; split <;> omega
   have hn1 : (if (N : Int) < x + many then (N : Int) else x + many) = hi := by rw [← hhi]; split <;> omega
   have hn2 : (if x + many < (N : Int) then x + many else (N : Int)) = hi := by rw [← hhi]; split <;> omega
   have hn3 : (if x + many ≤ (N : Int) then x + many else (N : Int)) = hi := by rw [← hhi]; split <;> omega
   clear hg
   go_enter Tryz.func75, Tryz.ntmps75
   go_wp2_with (go_at_call 100; refine hS.mono ?_; rintro e w2 ⟨rfl, h2, hc2⟩; clear hS)
   have hRel : ∃ C M v0, DvR w2 B C M v0 F { stepD s with f := fl s lo lo, n := s.n + (lo - lo).toNat } := by
    obtain ⟨C, M, v0, hR⟩ := h2
    refine ⟨C, M, v0, ?_⟩
    rw [fl_far (Int.le_refl lo), ← hse.out.2.2.1, ← hse.out.2.2.2, Int.sub_self]
    exact hR
   obtain ⟨C, M, v0, hR⟩ := hRel
   replace hR := lh hR
   replace hc2 := lh hc2
   clear h2
   go_loopw [6] (fun i wr => ∃ p : Int, lo ≤ p ∧ (p = lo ∨ p ≤ hi) ∧ i = .int .i64 p ∧ Hid (DvR wr B C M v0 F { stepD s with f := fl s lo p, n := s.n + (p - lo).toNat }) ∧ Hid (Chg F w wr)) (fun i _ => (N + 1 - (intOf i)).toNat)
   case atStart => exact ⟨lo, Int.le_refl _, .inl rfl, rfl, hR, hc2⟩
   clear hR hc2
   obtain ⟨p, hp1, hp2, rfl, hRh, hc⟩ := hrel
   have hR := hRh.out
   obtain ⟨⟨c0, c1, c2, c3, c4, c5⟩, fz⟩ := hR.cells
   obtain ⟨A, cap, rfl, _⟩ := hR.last.form
   simp only [hse.out.1, hN] at c0
   by_cases hlt : p < hi
   rotate_left
   ·have hge : hi ≤ p := by omega
    have hfin : fl s lo p = fl s lo hi := by
     rcases hp2 with e | e
     ·rw [fl_far (by omega), fl_far (by omega)]
     rw [show p = hi by omega]
    have hRf := lh (hR.mono (n := s.n + N) (by simp only []; omega))
    rw [hfin] at hRf
    clear hR c1 c2 c3 c4 c5 fz hfin
    go_wp2_with fail
    go_end0
    exact ⟨rfl, ⟨_, _, _, hRf.out⟩, hc.out⟩
   have hx64 : I64 p := by constructor <;> omega
   have hlk := hR.cach.look hx64
   simp only [hse.out.2.1] at hlk
   cases hcx : s.c p with
   | none =>
     rw [hcx] at hlk
     simp only [Option.getD_none, Option.isSome_none] at hlk
     have hfl := lh (fl_none (lo := lo) hcx)
     clear hR c2 c3 c4 c5 fz
     go_wp2_with fail
     go_roundw
     case rel => exact ⟨p + 1, by omega, by omega, by go_num, by rw [hfl.out]; exact lh (hRh.out.mono (n := s.n + (p + 1 - lo).toNat) (by simp only []; omega)), hc⟩
     simp [intOf]; omega
   | some v =>
     rw [hcx] at hlk
     simp only [Option.getD_some, Option.isSome_some] at hlk
     have hfl := lh (fl_some (lo := lo) hp1 hcx)
     obtain ⟨w3, hrun, hm3, hg3⟩ := hR.flus.put (f := v) hx64 (by simp only []; have := hsn.out; unfold maxLen; omega)
     have hFM := hR.fM
     have hR3 := lh (hR.fTo hg3 hm3 (Nat.le_succ _))
     have hc3 := lh (hc.out.trans (Chg.of_grown (S := F) hg3 (fun k e => by cases e; exact .inl hFM)) (fun j q => .inl q))
     clear hR c3 c4 c5 fz hm3 hg3
     go_wp2_with fail
     go_roundw
     case rel =>
      refine ⟨p + 1, by omega, by omega, by go_num, ?_, hc3⟩
      rw [hfl.out]
      exact lh (hR3.out.mono (n := s.n + (p + 1 - lo).toNat) (by simp only []; omega))
     simp [intOf]; omega
end Go.Proofs.YtkkbngcgphlikaaGreatDoor
end
