/-
  Layer 18 (lock): the code's table: a cell that leads to a map; what key has which lane; look, store, delete.
-/
import Derived.Test.YtibhahbimoiaaaaLk4
import Derived.Maps.Ext
import Derived.Maps.OwnSet
import Derived.Maps.RangeWalk
import Derived.Sort.OwnSortedInts
set_option linter.unusedVariables false
set_option linter.unusedSimpArgs false
namespace Go.Proofs.Ytibhahbimoiaaaa
open Go.RowKit Go.ChangeShapes Go.WideShapes Go.Deep Go.Maps

theorem klaw : Keyed Try.prog 3 := int_keyed Try.underlying3
theorem kzero (w : World) : (zeroValue 3).run Try.prog w = .ok (.int .i64 0) w := by kernel_rfl
/-- a number of 64 bits -/
def I64 (x : Int) : Prop := -9223372036854775808 ≤ x ∧ x ≤ 9223372036854775807
theorem I64.wf {x : Int} (h : I64 x) : (Lit.int .i64 x).wf = true := by
  obtain ⟨h1, h2⟩ := h
  exact WalkArith.wf_i64 (by omega)
theorem wf_I64 {x : Int} (h : (Lit.int .i64 x).wf = true) : I64 x := bounds_i64 h
theorem kint (x : Int) : WideAt.IsKeyLit (.int .i64 x) := trivial
/-- which lane a key has -/
abbrev Gx := Int → Option Int
structure Pic (D : DataW Unit) (g : Gx) : Prop where
  has : ∀ x, I64 x → Maps.has D (.int .i64 x) = (g x).isSome
  got : ∀ x c, g x = some c → I64 x ∧ I64 c ∧ ∀ z, D.atKey (.int .i64 x) z = .lit (.int .i64 c)
def putG (g : Gx) (k l : Int) : Gx := fun x => if x = k then some l else g x
def delG (g : Gx) (k : Int) : Gx := fun x => if x = k then none else g x
theorem lit_ne {x k : Int} (h : x ≠ k) : (Lit.int .i64 x) ≠ Lit.int .i64 k := fun e => h (by injection e)
theorem Pic.nil : Pic (.map []) (fun _ => none) := ⟨fun x _ => rfl, fun x c h => by cases h⟩
theorem Pic.put {D : DataW Unit} {g : Gx} {k l : Int} (h : Pic D g) (hm : IsMap D) (hk : I64 k) (hl : I64 l) : Pic (D.put (.int .i64 k) (.lit (.int .i64 l))) (putG g k l) := by
  refine ⟨fun x hx => ?_, fun x c hc => ?_⟩
  · unfold putG
    by_cases e : x = k
    · subst e; rw [if_pos rfl, has_put_same hm (kint _)]; rfl
    · rw [if_neg e, has_put_other (lit_ne e), h.has x hx]
  · unfold putG at hc
    by_cases e : x = k
    · subst e
      rw [if_pos rfl] at hc
      cases hc
      exact ⟨hk, hl, fun z => atKey_put_same hm (kint _) _ _⟩
    · rw [if_neg e] at hc
      obtain ⟨a, b, d⟩ := h.got x c hc
      exact ⟨a, b, fun z => by rw [atKey_put_other (lit_ne e), d z]⟩
theorem Pic.del {D : DataW Unit} {g : Gx} {k : Int} (h : Pic D g) : Pic (D.del (.int .i64 k)) (delG g k) := by
  refine ⟨fun x hx => ?_, fun x c hc => ?_⟩
  · unfold delG
    by_cases e : x = k
    · subst e; rw [if_pos rfl, has_del_same]; rfl
    · rw [if_neg e, has_del_other (lit_ne e), h.has x hx]
  · unfold delG at hc
    by_cases e : x = k
    · rw [if_pos e] at hc; cases hc
    · rw [if_neg e] at hc
      obtain ⟨a, b, d⟩ := h.got x c hc
      exact ⟨a, b, fun z => by rw [atKey_del_other (lit_ne e), d z]⟩
/-- the code's table lies in block B, its map in block M, of at most n entries -/
structure Tab (w : World) (B M n : Nat) (g : Gx) : Prop where
  cell : w.cell? ⟨B, 0, none⟩ = some (.map (some M))
  map : ∃ D, w.ownsMap Try.prog 3 (plainElem (H := Unit) Try.prog 3) M n D ∧ Pic D g
theorem Tab.ltM {w : World} {B M n : Nat} {g : Gx} (h : Tab w B M n g) : M < w.heap.size := by
  obtain ⟨D, ho, _⟩ := h.map
  exact ho.lt
theorem Tab.ltB {w : World} {B M n : Nat} {g : Gx} (h : Tab w B M n g) : B < w.heap.size := World.block_lt_of_cell? _ _ h.cell
theorem Tab.ne {w : World} {B M n : Nat} {g : Gx} (h : Tab w B M n g) : B ≠ M := by
  obtain ⟨D, ⟨es, c, hb, _⟩, _⟩ := h.map
  intro e
  have := h.cell
  rw [e] at this
  simp [World.cell?, hb] at this
theorem Tab.grown {w w' : World} {B M n : Nat} {g : Gx} {row : Option Nat} (h : Tab w B M n g) (hg : w.grownBy w' row) (hB : some B ≠ row) (hM : some M ≠ row) : Tab w' B M n g := by
  have hlt := h.ltB
  obtain ⟨D, ho, hp⟩ := h.map
  exact ⟨by rw [World.cell?_of_block (hg.block B hlt hB)]; exact h.cell, D, ho.kept hg hM, hp⟩
theorem Tab.keep {w w' : World} {B M n : Nat} {g : Gx} (h : Tab w B M n g) (hb : Below w.heap.size w w') : Tab w' B M n g :=
  h.grown (row := none) ⟨hb.os, hb.tape, hb.output, hb.size, fun k hk _ => hb.block k hk⟩ (by simp) (by simp)
theorem Tab.mono {w : World} {B M n n' : Nat} {g : Gx} (h : Tab w B M n g) (hn : n ≤ n') : Tab w B M n' g := by
  obtain ⟨D, ho, hp⟩ := h.map
  exact ⟨h.cell, D, ho.mono hn, hp⟩
theorem Tab.got {w : World} {B M n : Nat} {g : Gx} (h : Tab w B M n g) {x c : Int} (hx : g x = some c) : I64 x ∧ I64 c := by
  obtain ⟨D, _, hp⟩ := h.map
  exact ⟨(hp.got x c hx).1, (hp.got x c hx).2.1⟩
theorem Tab.look {w : World} {B M n : Nat} {g : Gx} (h : Tab w B M n g) {key : Int} (hk : I64 key) :
    ∃ c, (Instr.lookup 79 (.map (some M)) (.int .i64 key) true).run Try.prog w = .ok (.tuple #[.int .i64 c, .bool (g key).isSome]) w ∧ ∀ c', g key = some c' → c = c' := by
  obtain ⟨D, ho, hp⟩ := h.map
  obtain ⟨v, ps, hrun, hv⟩ := ho.look_ok klaw Try.underlying79 (kzero w) (plainElem_int Try.underlying3 (I64.wf (x := 0) ⟨by omega, by omega⟩)) (keyOf_int_mk Try.underlying3 hk.wf)
  obtain ⟨c, rfl, hz, hw⟩ := plainElem_int_inv Try.underlying3 hv
  refine ⟨c, by rw [hrun, hp.has key hk], fun c' hc' => ?_⟩
  have h2 := (hp.got key c' hc').2.2 (.lit (.int .i64 0))
  have h3 := congrArg Prod.fst hz
  simp only [] at h3
  rw [h2] at h3
  simp only [DataW.lit.injEq, Lit.int.injEq, true_and] at h3
  exact h3.symm
theorem Tab.put {w : World} {B M n : Nat} {g : Gx} (h : Tab w B M n g) {key lane : Int} (hk : I64 key) (hl : I64 lane) (hn : n < maxLen) :
    ∃ w', (Instr.mapUpdate 79 (.map (some M)) (.int .i64 key) (.int .i64 lane)).run Try.prog w = .ok () w' ∧ Tab w' B M (n + 1) (putG g key lane) ∧ w.grownBy w' (some M) := by
  obtain ⟨D, ho, hp⟩ := h.map
  obtain ⟨w', hrun, ho', ht⟩ := ho.store klaw Try.underlying79 hn (keyOf_int_mk Try.underlying3 hk.wf) (plainElem_int Try.underlying3 hl.wf)
  have hg := ht.grown
  exact ⟨w', hrun, ⟨by rw [World.cell?_of_block (hg.block B h.ltB (by simpa using h.ne))]; exact h.cell, _, ho', hp.put ho.isMap hk hl⟩, hg⟩
theorem Tab.drop {w : World} {B M n : Nat} {g : Gx} (h : Tab w B M n g) {key : Int} (hk : I64 key) (ty : TypeId) :
    ∃ w', (Builtin.delete_ #[79, 3] ty #[.map (some M), .int .i64 key]).run Try.prog w = .ok (.tuple #[]) w' ∧ Tab w' B M n (delG g key) ∧ w.grownBy w' (some M) := by
  obtain ⟨D, ho, hp⟩ := h.map
  obtain ⟨w', hrun, ho', ht⟩ := ho.drop klaw Try.underlying79 (keyOf_int_mk Try.underlying3 hk.wf) ty
  have hg := ht.grown
  exact ⟨w', hrun, ⟨by rw [World.cell?_of_block (hg.block B h.ltB (by simpa using h.ne))]; exact h.cell, _, ho', hp.del⟩, hg⟩
theorem grown_far {w w' : World} {M N : Nat} (hg : w.grownBy w' (some M)) (hM : N ≤ M) (hN : N ≤ w.heap.size) : Below N w w' :=
  ⟨hg.os, hg.tape, hg.output, hg.size, fun k hk => hg.block k (by omega) (by simp; omega)⟩

/-- a lane's keys -/
structure HeldIs (g : Gx) (lane : Int) (L : List Int) : Prop where
  inc : L.Pairwise (· < ·)
  mem : ∀ x, x ∈ L ↔ g x = some lane
theorem HeldIs.uniq {g : Gx} {lane : Int} {L J : List Int} (h : HeldIs g lane L) (h2 : HeldIs g lane J) : L = J := by
  have hp : L.Perm J := (List.perm_ext_iff_of_nodup (h.inc.imp (fun {a b} hab e => by omega)) (h2.inc.imp (fun {a b} hab e => by omega))).2 fun x => by rw [h.mem, h2.mem]
  exact hp.eq_of_pairwise (le := (· < ·)) (fun a b _ _ h1 h2 => by omega) h.inc h2.inc
theorem I64.cmp {x : Int} (h : I64 x) : True := trivial
end Go.Proofs.Ytibhahbimoiaaaa
