/-
  Layer 20 (tx): fresh objects, how they read in a map; what lies at which place.
-/
import Derived.Test.YtcemiclbeocnjaaRows
import Derived.Test.YtcemiclbeocnjaaCommon
import Derived.Test.YtcemiclbeocnjaaGl
import Derived.Maps.Ext
import Derived.Maps.OwnSet
import Derived.Maps.RangeWalk
set_option linter.unusedVariables false
set_option linter.unusedSimpArgs false
namespace Go.Proofs.Ytcemiclbeocnjaa
open Go.RowKit Go.ChangeShapes Go.WideShapes Go.Deep Go.Maps

/-- a fresh object: its place (chunk, index, class, many, fresh), where it lies, its header (type, size, serial) -/
abbrev Fx := (Int × Int × Int × Int × Bool) × Int × Int × Int × Int
def fx0 : Fx := ((0, 0, 0, 0, false), 0, 0, 0, 0)
def fE (f : Fx) : List Value := [.int .i64 f.1.1, .int .i64 f.1.2.1, .int .i64 f.1.2.2.1, .int .i64 f.1.2.2.2.1, .bool f.1.2.2.2.2, .int .i64 f.2.1, .int .i64 f.2.2.1, .int .i64 f.2.2.2.1, .int .u64 f.2.2.2.2]
def fV (f : Fx) : Value := .agg (fE f).toArray
def fD (f : Fx) : DataW Unit := .agg [.lit (.int .i64 f.1.1), .lit (.int .i64 f.1.2.1), .lit (.int .i64 f.1.2.2.1), .lit (.int .i64 f.1.2.2.2.1), .lit (.bool f.1.2.2.2.2), .lit (.int .i64 f.2.1), .lit (.int .i64 f.2.2.1), .lit (.int .i64 f.2.2.2.1), .lit (.int .u64 f.2.2.2.2)]
theorem fD_inj {f g : Fx} (h : fD f = fD g) : f = g := by
  obtain ⟨⟨a1, a2, a3, a4, a5⟩, a6, a7, a8, a9⟩ := f
  obtain ⟨⟨b1, b2, b3, b4, b5⟩, b6, b7, b8, b9⟩ := g
  simp only [fD, DataW.agg.injEq, List.cons.injEq, DataW.lit.injEq, Lit.int.injEq, Lit.bool.injEq, true_and, and_true] at h
  obtain ⟨rfl, rfl, rfl, rfl, rfl, rfl, rfl, rfl, rfl⟩ := h
  rfl
/-- how a fresh object in a map reads -/
def fR (v : Value) : Option (DataW Unit × List MemPlace) :=
  match v with
  | .agg a =>
    match a.toList with
    | [.int .i64 a1, .int .i64 a2, .int .i64 a3, .int .i64 a4, .bool a5, .int .i64 a6, .int .i64 a7, .int .i64 a8, .int .u64 a9] => some (fD ((a1, a2, a3, a4, a5), a6, a7, a8, a9), [])
    | _ => none
  | _ => none
theorem fR_mk (f : Fx) : fR (fV f) = some (fD f, []) := rfl
theorem fR_inv {v : Value} {z : DataW Unit × List MemPlace} (h : fR v = some z) : ∃ f, v = fV f ∧ z = (fD f, []) := by
  unfold fR at h
  split at h
  · rename_i a
    split at h
    · rename_i a1 a2 a3 a4 a5 a6 a7 a8 a9 e
      cases h
      refine ⟨((a1, a2, a3, a4, a5), a6, a7, a8, a9), ?_, rfl⟩
      unfold fV fE
      rw [← e]
    · cases h
  · cases h
theorem tlaw : Keyed Try.prog 3 := int_keyed Try.underlying3
theorem fzero (w : World) : (zeroValue 69).run Try.prog w = .ok (fV fx0) w := by kernel_rfl
def I64 (x : Int) : Prop := -9223372036854775808 ≤ x ∧ x ≤ 9223372036854775807
theorem I64.wf {x : Int} (h : I64 x) : (Lit.int .i64 x).wf = true := by
  obtain ⟨h1, h2⟩ := h
  exact WalkArith.wf_i64 (by omega)
theorem wf_I64 {x : Int} (h : (Lit.int .i64 x).wf = true) : I64 x := bounds_i64 h
theorem kint (x : Int) : WideAt.IsKeyLit (.int .i64 x) := trivial
theorem lit_ne {x k : Int} (h : x ≠ k) : (Lit.int .i64 x) ≠ Lit.int .i64 k := fun e => h (by injection e)
/-- which object lies where -/
abbrev Gf := Int → Option Fx
structure PicF (D : DataW Unit) (g : Gf) : Prop where
  has : ∀ x, I64 x → Maps.has D (.int .i64 x) = (g x).isSome
  got : ∀ x c, g x = some c → I64 x ∧ ∀ z, D.atKey (.int .i64 x) z = fD c
def putF (g : Gf) (k : Int) (f : Fx) : Gf := fun x => if x = k then some f else g x
def delF (g : Gf) (k : Int) : Gf := fun x => if x = k then none else g x
theorem PicF.nil : PicF (.map []) (fun _ => none) := ⟨fun x _ => rfl, fun x c h => by cases h⟩
theorem PicF.put {D : DataW Unit} {g : Gf} {k : Int} {f : Fx} (h : PicF D g) (hm : IsMap D) (hk : I64 k) : PicF (D.put (.int .i64 k) (fD f)) (putF g k f) := by
  refine ⟨fun x hx => ?_, fun x c hc => ?_⟩
  · unfold putF
    by_cases e : x = k
    · subst e; rw [if_pos rfl, has_put_same hm (kint _)]; rfl
    · rw [if_neg e, has_put_other (lit_ne e), h.has x hx]
  · unfold putF at hc
    by_cases e : x = k
    · subst e
      rw [if_pos rfl] at hc
      cases hc
      exact ⟨hk, fun z => atKey_put_same hm (kint _) _ _⟩
    · rw [if_neg e] at hc
      obtain ⟨a, d⟩ := h.got x c hc
      exact ⟨a, fun z => by rw [atKey_put_other (lit_ne e), d z]⟩
theorem PicF.del {D : DataW Unit} {g : Gf} {k : Int} (h : PicF D g) : PicF (D.del (.int .i64 k)) (delF g k) := by
  refine ⟨fun x hx => ?_, fun x c hc => ?_⟩
  · unfold delF
    by_cases e : x = k
    · subst e; rw [if_pos rfl, has_del_same]; rfl
    · rw [if_neg e, has_del_other (lit_ne e), h.has x hx]
  · unfold delF at hc
    by_cases e : x = k
    · rw [if_pos e] at hc; cases hc
    · rw [if_neg e] at hc
      obtain ⟨a, d⟩ := h.got x c hc
      exact ⟨a, fun z => by rw [atKey_del_other (lit_ne e), d z]⟩
/-- the map in block M, of at most n entries -/
def MapF (w : World) (M n : Nat) (g : Gf) : Prop := ∃ D, w.ownsMap Try.prog 3 fR M n D ∧ PicF D g
theorem MapF.lt {w : World} {M n : Nat} {g : Gf} (h : MapF w M n g) : M < w.heap.size := by
  obtain ⟨D, ho, _⟩ := h
  exact ho.lt
theorem MapF.grown {w w' : World} {M n : Nat} {g : Gf} {row : Option Nat} (h : MapF w M n g) (hg : w.grownBy w' row) (hM : some M ≠ row) : MapF w' M n g := by
  obtain ⟨D, ho, hp⟩ := h
  exact ⟨D, ho.kept hg hM, hp⟩
theorem MapF.keep {w w' : World} {M n : Nat} {g : Gf} (h : MapF w M n g) (hb : Below w.heap.size w w') : MapF w' M n g :=
  h.grown (row := none) ⟨hb.os, hb.tape, hb.output, hb.size, fun k hk _ => hb.block k hk⟩ (by simp)
theorem MapF.mono {w : World} {M n n' : Nat} {g : Gf} (h : MapF w M n g) (hn : n ≤ n') : MapF w M n' g := by
  obtain ⟨D, ho, hp⟩ := h
  exact ⟨D, ho.mono hn, hp⟩
theorem MapF.look {w : World} {M n : Nat} {g : Gf} (h : MapF w M n g) {key : Int} (hk : I64 key) :
    (Instr.lookup 105 (.map (some M)) (.int .i64 key) true).run Try.prog w = .ok (.tuple #[fV ((g key).getD fx0), .bool (g key).isSome]) w := by
  obtain ⟨D, ho, hp⟩ := h
  obtain ⟨v, ps, hrun, hv⟩ := ho.look_ok tlaw Try.underlying105 (fzero w) (fR_mk fx0) (keyOf_int_mk Try.underlying3 hk.wf)
  obtain ⟨f, rfl, hz⟩ := fR_inv hv
  have h3 := congrArg Prod.fst hz
  simp only [] at h3
  rw [hrun, hp.has key hk]
  cases hg : g key with
  | none =>
    have hn : Maps.has D (.int .i64 key) = false := by rw [hp.has key hk, hg]; rfl
    rw [atKey_of_not_has hn] at h3
    rw [← fD_inj h3]; rfl
  | some c =>
    rw [(hp.got key c hg).2] at h3
    rw [← fD_inj h3]; rfl
theorem MapF.look1 {w : World} {M n : Nat} {g : Gf} (h : MapF w M n g) {key : Int} (hk : I64 key) :
    (Instr.lookup 105 (.map (some M)) (.int .i64 key) false).run Try.prog w = .ok (fV ((g key).getD fx0)) w := by
  obtain ⟨D, ho, hp⟩ := h
  obtain ⟨v, ps, hrun, hv⟩ := ho.lookup tlaw Try.underlying105 (fzero w) (fR_mk fx0) (keyOf_int_mk Try.underlying3 hk.wf)
  obtain ⟨f, rfl, hz⟩ := fR_inv hv
  have h3 := congrArg Prod.fst hz
  simp only [] at h3
  rw [hrun]
  cases hg : g key with
  | none =>
    have hn : Maps.has D (.int .i64 key) = false := by rw [hp.has key hk, hg]; rfl
    rw [atKey_of_not_has hn] at h3
    rw [← fD_inj h3]; rfl
  | some c =>
    rw [(hp.got key c hg).2] at h3
    rw [← fD_inj h3]; rfl
theorem MapF.put {w : World} {M n : Nat} {g : Gf} (h : MapF w M n g) {key : Int} {f : Fx} (hk : I64 key) (hn : n < maxLen) :
    ∃ w', (Instr.mapUpdate 105 (.map (some M)) (.int .i64 key) (fV f)).run Try.prog w = .ok () w' ∧ MapF w' M (n + 1) (putF g key f) ∧ w.grownBy w' (some M) := by
  obtain ⟨D, ho, hp⟩ := h
  obtain ⟨w', hrun, ho', ht⟩ := ho.store tlaw Try.underlying105 hn (keyOf_int_mk Try.underlying3 hk.wf) (fR_mk f)
  exact ⟨w', hrun, ⟨_, ho', hp.put ho.isMap hk⟩, ht.grown⟩
theorem MapF.drop {w : World} {M n : Nat} {g : Gf} (h : MapF w M n g) {key : Int} (hk : I64 key) (ty : TypeId) :
    ∃ w', (Builtin.delete_ #[105, 3] ty #[.map (some M), .int .i64 key]).run Try.prog w = .ok (.tuple #[]) w' ∧ MapF w' M n (delF g key) ∧ w.grownBy w' (some M) := by
  obtain ⟨D, ho, hp⟩ := h
  obtain ⟨w', hrun, ho', ht⟩ := ho.drop tlaw Try.underlying105 (keyOf_int_mk Try.underlying3 hk.wf) ty
  exact ⟨w', hrun, ⟨_, ho', hp.del⟩, ht.grown⟩
end Go.Proofs.Ytcemiclbeocnjaa
