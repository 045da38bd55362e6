/-
  Part of the proof of SoundPlaces.
-/
import Derived.Test.YtdmmbnnejbmdpaaGreatDoorVs29
import Derived.Test.YtdmmbnnejbmdpaaGreatDoorVs41
import Derived.Test.YtdmmbnnejbmdpaaGreatDoorVs48
import Derived.Test.YtdmmbnnejbmdpaaGreatDoorVs9
import Derived.Maps.Ext
import Derived.Maps.OwnSet
import Derived.Maps.RangeWalk
import Derived.Lib.SmallJoins
import Derived.Test.YtdmmbnnejbmdpaaGreatDoorVs0
set_option maxRecDepth 10000
set_option maxHeartbeats 1000000
set_option linter.unusedVariables false
set_option linter.unusedSimpArgs false
section
namespace Go.Proofs.YtdmmbnnejbmdpaaGreatDoor
open Go.RowKit Go.ChangeShapes Go.WideShapes Go.Deep Go.Maps Go.MapKept Go.ChangeMaps
def iR (v : Value) : Option (DataW Unit × List MemPlace) :=
 match v with
 | .int .i64 a => some (.lit (.int .i64 a), [])
 | _ => none
theorem iR_mk (x : Int) : iR (.int .i64 x) = some (.lit (.int .i64 x), []) := rfl
theorem iR_inv {v : Value} {z : DataW Unit × List MemPlace} (h : iR v = some z) : ∃ a, v = .int .i64 a ∧ z = (.lit (.int .i64 a), []) := by
 unfold iR at h
 split at h
 ·cases h
  exact ⟨_, rfl, rfl⟩
 ·cases h
theorem izero (w : World) : (zeroValue 3).run Tryz.prog w = .ok (.int .i64 0) w := by kernel_rfl
theorem ulaw : Keyed Tryz.prog 33 := int_keyed Tryz.underlying33
def U64 (x : Int) : Prop := 0 ≤ x ∧ x ≤ 18446744073709551615
theorem U64.wf {x : Int} (h : U64 x) : (Lit.int .u64 x).wf = true := by
 obtain ⟨h1, h2⟩ := h
 exact WalkArith.wf_u64 (by omega)
theorem kuint (x : Int) : WideAt.IsKeyLit (.int .u64 x) := trivial
theorem ulit_ne {x k : Int} (h : x ≠ k) : (Lit.int .u64 x) ≠ Lit.int .u64 k := fun e => h (by injection e)
abbrev Gk := Int → Option Int
structure PicK (D : DataW Unit) (g : Gk) : Prop where
 has : ∀ x, U64 x → Maps.has D (.int .u64 x) = (g x).isSome
 got : ∀ x c, g x = some c → U64 x ∧ ∀ z, D.atKey (.int .u64 x) z = .lit (.int .i64 c)
def putK9 (g : Gk) (k : Int) (f : Int) : Gk := fun x => if x = k then some f else g x
theorem PicK.nil : PicK (.map []) (fun _ => none) := ⟨fun x _ => rfl, fun x c h => by cases h⟩
theorem PicK.put {D : DataW Unit} {g : Gk} {k : Int} {f : Int} (h : PicK D g) (hm : IsMap D) (hk : U64 k) : PicK (D.put (.int .u64 k) (.lit (.int .i64 f))) (putK9 g k f) := by
 refine ⟨fun x hx => ?_, fun x c hc => ?_⟩
 ·unfold putK9
  by_cases e : x = k
  ·subst e; rw [if_pos rfl, has_put_same hm (kuint _)]; rfl
  ·rw [if_neg e, has_put_other (ulit_ne e), h.has x hx]
 ·unfold putK9 at hc
  by_cases e : x = k
  ·subst e
   rw [if_pos rfl] at hc
   cases hc
   exact ⟨hk, fun z => atKey_put_same hm (kuint _) _ _⟩
  ·rw [if_neg e] at hc
   obtain ⟨a, d⟩ := h.got x c hc
   exact ⟨a, fun z => by rw [atKey_put_other (ulit_ne e), d z]⟩
def MapK (w : World) (M n : Nat) (g : Gk) : Prop := ∃ D, w.ownsMap Tryz.prog 33 iR M n D ∧ PicK D g
theorem MapK.lt {w : World} {M n : Nat} {g : Gk} (h : MapK w M n g) : M < w.heap.size := by
 obtain ⟨D, ho, _⟩ := h
 exact ho.lt
theorem MapK.grown {w w' : World} {M n : Nat} {g : Gk} {row : Option Nat} (h : MapK w M n g) (hg : w.grownBy w' row) (hM : some M ≠ row) : MapK w' M n g := by
 obtain ⟨D, ho, hp⟩ := h
 exact ⟨D, ho.kept hg hM, hp⟩
theorem MapK.keep {w w' : World} {M n : Nat} {g : Gk} (h : MapK w M n g) (hb : Below w.heap.size w w') : MapK w' M n g :=
 h.grown (row := none) ⟨hb.os, hb.tape, hb.output, hb.size, fun k hk _ => hb.block k hk⟩ (by simp)
theorem MapK.new (w : World) : MapK (w.alloc (.map #[] 0)) w.heap.size 0 (fun _ => none) := ⟨_, World.ownsMap_made (H := Unit) w Tryz.prog 33 iR, PicK.nil⟩
theorem MapK.look {w : World} {M n : Nat} {g : Gk} (h : MapK w M n g) {key : Int} (hk : U64 key) :
 (Instr.lookup 130 (.map (some M)) (.int .u64 key) true).run Tryz.prog w = .ok (.tuple #[.int .i64 ((g key).getD 0), .bool (g key).isSome]) w := by
 obtain ⟨D, ho, hp⟩ := h
 obtain ⟨v, ps, hrun, hv⟩ := ho.look_ok ulaw Tryz.underlying130 (izero w) (iR_mk 0) (keyOf_int_mk Tryz.underlying33 hk.wf)
 obtain ⟨f, rfl, hz⟩ := iR_inv hv
 have h3 := congrArg Prod.fst hz
 simp only [] at h3
 rw [hrun, hp.has key hk]
 cases hg : g key with
 | none =>
   have hn : Maps.has D (.int .u64 key) = false := by rw [hp.has key hk, hg]; rfl
   rw [atKey_of_not_has hn] at h3
   simp only [DataW.lit.injEq, Lit.int.injEq, true_and] at h3
   rw [← h3]; rfl
 | some c =>
   rw [(hp.got key c hg).2] at h3
   simp only [DataW.lit.injEq, Lit.int.injEq, true_and] at h3
   rw [← h3]; rfl
theorem MapK.put {w : World} {M n : Nat} {g : Gk} (h : MapK w M n g) {key : Int} {f : Int} (hk : U64 key) (hn : n < maxLen) :
 ∃ w', (Instr.mapUpdate 130 (.map (some M)) (.int .u64 key) (.int .i64 f)).run Tryz.prog w = .ok () w' ∧ MapK w' M (n + 1) (putK9 g key f) ∧ w.grownBy w' (some M) := by
 obtain ⟨D, ho, hp⟩ := h
 obtain ⟨w', hrun, ho', ht⟩ := ho.store ulaw Tryz.underlying130 hn (keyOf_int_mk Tryz.underlying33 hk.wf) (iR_mk f)
 exact ⟨w', hrun, ⟨_, ho', hp.put ho.isMap hk⟩, ht.grown⟩
theorem OwnE_row_ne {α : Type} {e : TypeId} {sz : Nat} {en : α → List Value} {w : World} {base M n : Nat} {v : Value} {l : List α} {g : Gk} (h : OwnE e sz en w base v l) (hb : MapK w M n g) : ∀ k, v.ownBlock = some k → k ≠ M := by
 rintro k hk rfl
 obtain ⟨D, ⟨es, c, hbb, Ft⟩, hp⟩ := hb
 rcases h.2 with ⟨rfl, _⟩ | ⟨g, cap, cur, rfl, _, hg, _⟩
 ·cases hk
 ·cases hk
  rw [hbb] at hg
  cases hg
end Go.Proofs.YtdmmbnnejbmdpaaGreatDoor
end
section
namespace Go.Proofs.YtdmmbnnejbmdpaaGreatDoor
open Go.Lib Go.RowKit Go.ChangeShapes Go.WideShapes Go.Deep Go.Shelf
abbrev Itm := Nat × Nat × Nat × List Pe × List Ox
abbrev ItV := Nat × Nat × Nat × (Value × List Pe) × (Value × List Ox)
def eIt (x : ItV) : List Value := [.int .u8 (x.1 : Nat), .int .u8 (x.2.1 : Nat), .int .u64 (x.2.2.1 : Nat), slV x.2.2.2.1.1, slV x.2.2.2.2.1]
def itm (x : ItV) : Itm := (x.1, x.2.1, x.2.2.1, x.2.2.2.1.2, x.2.2.2.2.2)
def eSl (s : Nat × Nat) : List Value := [.int .u16 (s.1 : Nat), .int .u64 (s.2 : Nat)]
structure Gv where
 a : Nat
 b : Nat
 tiles : List Nat
 fill : List Nat
 items : List Itm
 root : Nat
 epoch : Nat
 spoil : List (Nat × Nat)
structure GvM (w : World) (vT vF vI vS : Value) (xs : List ItV) (p : Gv) : Prop where
 t : KL .u16 w vT p.tiles
 f : KL .u64 w vF p.fill
 i : EL 5 eIt w vI xs
 e : ∀ x ∈ xs, EN w x.2.2.2.1.1 x.2.2.2.1.2
 o : ∀ x ∈ xs, OPL w x.2.2.2.2.1 x.2.2.2.2.2
 x : xs.map itm = p.items
 s : EL 2 eSl w vS p.spoil
theorem GvM.keep {w w1 : World} {vT vF vI vS : Value} {xs : List ItV} {p : Gv} (h : GvM w vT vF vI vS xs p) (hb : Below w.heap.size w w1) : GvM w1 vT vF vI vS xs p :=
 ⟨h.t.keep hb, h.f.keep hb, h.i.keep hb, fun x hx => (h.e x hx).keep hb, fun x hx => (h.o x hx).keep hb, h.x, h.s.keep hb⟩
structure GvB (p : Gv) : Prop where
 a : p.a < 256
 b : p.b < 256
 t : HL p.tiles
 f : WL p.fill
 i : ∀ x ∈ p.items, x.1 < 256 ∧ x.2.1 < 256 ∧ x.2.2.1 < 18446744073709551616 ∧ (∀ e ∈ x.2.2.2.1, WL e.2) ∧ OVs x.2.2.2.2
 r : p.root < 18446744073709551616
 e : p.epoch < 18446744073709551616
 s : ∀ x ∈ p.spoil, x.1 < 65536 ∧ x.2 < 18446744073709551616
def gvV (p : Gv) (vT vF vI vS : Value) : Value := .agg #[.int .u8 (p.a : Nat), .int .u8 (p.b : Nat), vT, vF, vI, .int .u64 (p.root : Nat), .int .u64 (p.epoch : Nat), vS]
def gvC (p : Gv) (vT vF vI vS : Value) : Array Value := #[.int .u8 (p.a : Nat), .int .u8 (p.b : Nat), vT, vF, vI, .int .u64 (p.root : Nat), .int .u64 (p.epoch : Nat), vS]
theorem EN.sl {w : World} {v : Value} {l : List Pe} (h : EN w v l) : ∃ A c, v = .slice A l.length c := by
 obtain ⟨xs, h1, h2, h3⟩ := h
 obtain ⟨A, c, hv, _⟩ := h1
 exact ⟨A, c, by rw [hv, ← h3, List.length_map]⟩
theorem EL.sl {α : Type} [Inhabited α] {sz : Nat} {en : α → List Value} {w : World} {v : Value} {l : List α} (h : EL sz en w v l) : ∃ A c, v = .slice A l.length c := by
 obtain ⟨A, c, hv, _⟩ := h
 exact ⟨A, c, hv⟩
theorem GvM.item {w : World} {vT vF vS : Value} {AI : Option Addr} {n cI : Nat} {xs : List ItV} {p : Gv} (h : GvM w vT vF (.slice AI n cI) vS xs p) (hn : p.items.length = n) (w1 : World) (hb : Below w.heap.size w w1) (j : Nat) (hj : j < n) :
 ∃ g off ln st gn Ae ce Ao co es ops, AI = some ⟨g, off, none⟩ ∧ n ≤ cI ∧ g < w.heap.size ∧ p.items.getD j default = (ln, st, gn, es, ops) ∧ (ln, st, gn, es, ops) ∈ p.items ∧ EN w1 (.slice Ae es.length ce) es ∧ OPL w1 (.slice Ao ops.length co) ops ∧
   (w1.cell? ⟨g, off + j * 5, none⟩ = some (.int .u8 (ln : Nat)) ∧ w1.cell? ⟨g, off + j * 5 + 1, none⟩ = some (.int .u8 (st : Nat)) ∧ w1.cell? ⟨g, off + j * 5 + 2, none⟩ = some (.int .u64 (gn : Nat)) ∧ w1.cell? ⟨g, off + j * 5 + 3, none⟩ = some (.slice Ae es.length ce) ∧ w1.cell? ⟨g, off + j * 5 + 4, none⟩ = some (.slice Ao ops.length co)) := by
 have hl : xs.length = n := by rw [← hn, ← h.x, List.length_map]
 obtain ⟨A, c, hv, hc⟩ := EL.form h.i hl
 cases hv
 obtain ⟨g, off, rfl, h1, h2, h3, h4⟩ := hc w1 j hb hj
 have hm : xs.getD j default ∈ xs := by rw [List.getD_eq_getElem?_getD, List.getElem?_eq_getElem (by omega)]; exact List.getElem_mem _
 have hit : p.items.getD j default = itm (xs.getD j default) := by
  rw [← h.x, List.getD_eq_getElem?_getD, List.getD_eq_getElem?_getD, List.getElem?_map, List.getElem?_eq_getElem (by omega)]
  rfl
 have hE := (h.e _ hm).keep hb
 have hO := (h.o _ hm).keep hb
 have hmi : itm (xs.getD j default) ∈ p.items := by rw [← h.x]; exact List.mem_map_of_mem hm
 obtain ⟨q, hq⟩ : ∃ q, xs.getD j default = q := ⟨_, rfl⟩
 rw [hq] at hE hO hit hmi h4
 obtain ⟨ln, st, gn, ⟨ve, es⟩, ⟨vo, ops⟩⟩ := q
 simp only [] at hE hO
 obtain ⟨Ae, ce, rfl⟩ := hE.sl
 obtain ⟨Ao, co, rfl⟩ := EL.sl hO
 exact ⟨g, off, ln, st, gn, Ae, ce, Ao, co, es, ops, rfl, h1, h2, hit, hmi, hE, hO, h4 0 (by omega), h4 1 (by omega), h4 2 (by omega), h4 3 (by omega), h4 4 (by omega)⟩
def gvL (p : Gv) : Nat := 1 + p.a % 3
def gvG (p : Gv) : Nat := 1 + p.b % 8
def gvN (p : Gv) : Nat := 10 + 73 * gvL p + 33 * gvG p
theorem geom_any (p : Gv) (AT AF AI AS : Option Addr) (nT cT nF cF nI cI nS cS : Nat) (w : World) (hB : GvB p) :
 Calls Tryz.prog 22 #[gvV p (.slice AT nT cT) (.slice AF nF cF) (.slice AI nI cI) (.slice AS nS cS)] w fun e w' => e = .returned (.agg #[.int .i64 (gvN p : Nat), .int .i64 (gvL p : Nat)]) ∧ Below w.heap.size w w' := by
 have ha := hB.a
 have hb := hB.b
 unfold gvV gvN gvL gvG
 obtain ⟨a, hpa⟩ : ∃ a, p.a = a := ⟨_, rfl⟩
 obtain ⟨b, hpb⟩ : ∃ b, p.b = b := ⟨_, rfl⟩
 rw [hpa] at ha
 rw [hpb] at hb
 rw [hpa, hpb]
 generalize p.root = r
 generalize p.epoch = ep
 obtain ⟨a3, ha3⟩ : ∃ a3, a % 3 = a3 := ⟨_, rfl⟩
 obtain ⟨b8, hb8⟩ : ∃ b8, b % 8 = b8 := ⟨_, rfl⟩
 have m1 : (a : Int) % 3 = (a3 : Int) := by omega
 have m2 : (b : Int) % 8 = (b8 : Int) := by omega
 have m3 : (a : Int).tmod 3 = (a3 : Int) := by rw [Int.tmod_eq_emod_of_nonneg (by omega)]; exact m1
 have m4 : (b : Int).tmod 8 = (b8 : Int) := by rw [Int.tmod_eq_emod_of_nonneg (by omega)]; exact m2
 have hS := lh (fun w1 => show Calls Tryz.prog 59 #[.int .u8 (a3 : Nat), .int .u8 (b8 : Nat), .int .u8 0] w1 (fun e w' => e = .returned (.agg #[.int .i64 ((10 + 73 * (1 + a3) + 33 * (1 + b8) : Nat) : Int), .int .i64 ((1 + a3 : Nat) : Int)]) ∧ Below w1.heap.size w1 w') from by
  have h := small_any (a3 : Nat) (b8 : Nat) 0 w1 (by omega) (by omega) (by omega) (by omega) (by omega) (by omega)
  rw [show ((10 + 73 * (1 + a3) + 33 * (1 + b8) : Nat) : Int) = smW (a3 : Nat) (b8 : Nat) 0 from by unfold smW; omega, show ((1 + a3 : Nat) : Int) = smL (a3 : Nat) from by unfold smL; omega]
  exact h)
 rw [ha3, hb8]
 generalize 10 + 73 * (1 + a3) + 33 * (1 + b8) = N at *
 generalize 1 + a3 = L at *
 have hB1 := bZ w (.cells #[.int .u8 (a : Nat), .int .u8 (b : Nat), .slice AT nT cT, .slice AF nF cF, .slice AI nI cI, .int .u64 (r : Nat), .int .u64 (ep : Nat), .slice AS nS cS] 47)
 have gP := HB.new w #[.int .u8 (a : Nat), .int .u8 (b : Nat), .slice AT nT cT, .slice AF nF cF, .slice AI nI cI, .int .u64 (r : Nat), .int .u64 (ep : Nat), .slice AS nS cS] 47
 obtain ⟨wa, hwa⟩ : ∃ x, w.alloc (.cells #[.int .u8 (a : Nat), .int .u8 (b : Nat), .slice AT nT cT, .slice AF nF cF, .slice AI nI cI, .int .u64 (r : Nat), .int .u64 (ep : Nat), .slice AS nS cS] 47) = x := ⟨_, rfl⟩
 have hsa : wa.heap.size = w.heap.size + 1 := by rw [← hwa]; simp
 rw [hwa] at hB1 gP
 have gR := HB.new wa #[.int .i64 0, .int .i64 0] 51
 have e2 := bZ wa (.cells #[.int .i64 0, .int .i64 0] 51)
 have gP2 := gP.keep e2
 have hB2 := hB1.trans (e2.mono hB1.size)
 obtain ⟨wb, hwb⟩ : ∃ x, wa.alloc (.cells #[.int .i64 0, .int .i64 0] 51) = x := ⟨_, rfl⟩
 rw [hwb] at gP2 gR hB2
 rw [hsa] at gR
 obtain ⟨C, hC⟩ : ∃ C, w.heap.size = C := ⟨_, rfl⟩
 rw [hC] at gP2 gR hsa
 have p0 := (row_cell gP2 0).1
 have p1 := (row_cell gP2 1).1
 clear hB1 gP e2 m1 m2 ha3 hb8
 have m1 : (a : Int) % 3 = (a3 : Int) := by rw [← m3, Int.tmod_eq_emod_of_nonneg (by omega)]
 have m2 : (b : Int) % 8 = (b8 : Int) := by rw [← m4, Int.tmod_eq_emod_of_nonneg (by omega)]
 go_enter Tryz.func22, Tryz.ntmps22
 subst hwb hwa
 go_wp2_with fail
 refine (hS.out _).mono ?_
 rintro e w1 ⟨rfl, hb1⟩
 have gR1 := gR.keep hb1
 have hB3 := hB2.trans (hb1.mono hB2.size)
 obtain ⟨r0, f0⟩ := row_cell gR1 0
 obtain ⟨r1, f1⟩ := row_cell gR1 1
 obtain ⟨w9, h9, ⟨c0, c1⟩, hb9⟩ := st2_ex (HB.c2 gR1) (.int .i64 (N : Nat)) (.int .i64 (L : Nat))
 have hB9 := hB3.trans (hb9.mono (by omega))
 clear gP2 gR gR1 hb1 hb9 hB2 hB3 p0 p1 hS
 subst h9
 go_wp2_with fail
 refine bodyPost_ret (v := .agg #[.int .i64 (N : Nat), .int .i64 (L : Nat)]) (by simp [results, Tryz.results22, go_sem, c0, c1]) rfl ⟨rfl, hB9⟩
def fewI (x : Itm) : Bool := decide (x.2.2.2.1.length ≤ 12) && decide (x.2.2.2.2.length ≤ 22) && x.2.2.2.1.all fun e => decide (e.2.length ≤ 20)
def fewB (p : Gv) : Bool := decide (p.tiles.length ≤ 20 ∧ p.fill.length ≤ 40 ∧ p.items.length ≤ 4 ∧ p.spoil.length ≤ 4) && p.items.all fewI
end Go.Proofs.YtdmmbnnejbmdpaaGreatDoor
end
section
namespace Go.Proofs.YtdmmbnnejbmdpaaGreatDoor
open Go.Lib Go.RowKit Go.ChangeShapes Go.WideShapes Go.Deep Go.Shelf
theorem EN.at {w : World} {Ae : Option Addr} {ne ce : Nat} {es : List Pe} (h : EN w (.slice Ae ne ce) es) (hl : es.length = ne) (w1 : World) (hb : Below w.heap.size w w1) (k : Nat) (hk : k < ne) :
 ∃ g off a A l c, Ae = some ⟨g, off, none⟩ ∧ ne ≤ ce ∧ g < w.heap.size ∧ es.getD k default = (a, l) ∧ (a, l) ∈ es ∧ KL .u64 w1 (.slice A l.length c) l ∧ (w1.cell? ⟨g, off + k * 2, none⟩ = some (.int .i64 a) ∧ w1.cell? ⟨g, off + k * 2 + 1, none⟩ = some (.slice A l.length c)) := by
 obtain ⟨xs, h1, h2, h3⟩ := h
 have hx : xs.length = ne := by rw [← hl, ← h3, List.length_map]
 obtain ⟨A, c, hv, hc⟩ := EL.form h1 hx
 cases hv
 obtain ⟨g, off, rfl, q1, q2, q3, q4⟩ := hc w1 k hb hk
 have hm : xs.getD k default ∈ xs := by rw [List.getD_eq_getElem?_getD, List.getElem?_eq_getElem (by omega)]; exact List.getElem_mem _
 have hit : es.getD k default = px (xs.getD k default) := by
  rw [← h3, List.getD_eq_getElem?_getD, List.getD_eq_getElem?_getD, List.getElem?_map, List.getElem?_eq_getElem (by omega)]
  rfl
 have hmi : px (xs.getD k default) ∈ es := by rw [← h3]; exact List.mem_map_of_mem hm
 have hK := (h2 _ hm).keep hb
 obtain ⟨q, hq⟩ : ∃ q, xs.getD k default = q := ⟨_, rfl⟩
 rw [hq] at hK hit hmi q4
 obtain ⟨a, v, l⟩ := q
 simp only [] at hK
 obtain ⟨A2, c2, hv2, _⟩ := hK.form rfl
 subst hv2
 exact ⟨g, off, a, A2, l, c2, rfl, q1, q2, hit, hmi, hK, q4 0 (by omega), q4 1 (by omega)⟩
end Go.Proofs.YtdmmbnnejbmdpaaGreatDoor
end
section
namespace Go.Proofs.YtdmmbnnejbmdpaaGreatDoor
open Go.RowKit Go.ChangeShapes Go.WideShapes Go.Deep
theorem sl_cell {H : Type} {enc : TypeId × Value → H} {P : Program} {W : World} {n : Nat} {t e : TypeId} {u : Value} {y : DataW H × List MemPlace} (ht : P.underlying t = some (.slice e)) (h : DataW.trod enc P W 0 (fun _ => true) true n t [u] = some y) :
 ∃ ad len cap, u = .slice ad len cap ∧ DataW.Trod enc P W 0 (fun _ => true) true t (.slice ad len cap) y.1 y.2 := by
 have hs : ∃ ad len cap, u = .slice ad len cap := by
  obtain ⟨d, p⟩ := y
  rcases open_slice ht h with ⟨hcs, _⟩ | ⟨a, len', cap', m, n', D, Pl, hcs, _⟩
  ·simp at hcs; exact ⟨none, 0, 0, hcs⟩
  ·simp at hcs; exact ⟨some a, len', cap', hcs⟩
 obtain ⟨ad, len, cap, rfl⟩ := hs
 exact ⟨ad, len, cap, rfl, ⟨n, by obtain ⟨d, p⟩ := y; simpa [Value.cells] using h⟩⟩
theorem c8 : Tryz.prog.cellsOf 5 = 1 := by kernel_rfl
end Go.Proofs.YtdmmbnnejbmdpaaGreatDoor
end
