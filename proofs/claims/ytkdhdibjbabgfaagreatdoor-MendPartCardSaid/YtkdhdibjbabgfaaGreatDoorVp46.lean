/-
  Part of the proof of MendPart.
-/
import Derived.Test.YtkdhdibjbabgfaaGreatDoorVp13
import Derived.Test.YtkdhdibjbabgfaaGreatDoorVp45
import Derived.Lib.SmallJoins
import Derived.Test.YtkdhdibjbabgfaaGreatDoorVp0
set_option maxRecDepth 10000
set_option maxHeartbeats 1000000
set_option linter.unusedVariables false
set_option linter.unusedSimpArgs false
section
namespace Go.Proofs.YtkdhdibjbabgfaaGreatDoor
open Go.Lib Go.RowKit Go.ChangeShapes Go.WideShapes Go.Deep Go.Shelf
theorem HB.chg {S : Nat → Prop} {w w1 : World} {b : Nat} {cs : Array Value} {t : TypeId} (h : HB w b cs t) (hc : Chg S w w1) (hn : ¬ S b) : HB w1 b cs t := (hc.block b h.lt hn).trans h
theorem HB.ne_row {w : World} {b g n c base : Nat} {cs : Array Value} {t : TypeId} {l : List Nat} (h : HB w b cs t) (ho : OwnU w base (.slice (some ⟨g, 0, none⟩) n c) l) (ht : t ≠ 25) : b ≠ g := fun e => by
 obtain ⟨_, cur, hg⟩ := OwnU_row ho
 subst e
 have h3 := (show w.heap[b]? = _ from h).symm.trans hg
 simp at h3
 exact ht h3.2
def putK (X : List Nat) (a : Nat) (l : List Nat) : Nat → List Nat
 | 0 => X
 | k + 1 => (putK X a l k).set (a + k) (l.getD k 0)
def putL (X : List Nat) (a : Nat) (l : List Nat) : List Nat := putK X a l l.length
theorem putK_len (X : List Nat) (a : Nat) (l : List Nat) : ∀ k, (putK X a l k).length = X.length
 | 0 => rfl
 | k + 1 => by rw [putK, List.length_set, putK_len X a l k]
theorem putL_len (X : List Nat) (a : Nat) (l : List Nat) : (putL X a l).length = X.length := putK_len _ _ _ _
theorem putK_stop (X : List Nat) (a : Nat) (l : List Nat) (j : Nat) (h : X.length ≤ a + j) : ∀ k, putK X a l (j + k) = putK X a l j
 | 0 => rfl
 | k + 1 => by
   rw [show j + (k + 1) = (j + k) + 1 from rfl, putK, putK_stop X a l j h k]
   exact List.set_eq_of_length_le (by rw [putK_len]; omega)
theorem putK_WL {X : List Nat} {a : Nat} {l : List Nat} (hX : WL X) (hl : WL l) : ∀ k, WL (putK X a l k)
 | 0 => hX
 | k + 1 => (putK_WL hX hl k).setN _ _ (hl.getN k)
theorem putL_WL {X : List Nat} {a : Nat} {l : List Nat} (hX : WL X) (hl : WL l) : WL (putL X a l) := putK_WL hX hl _
theorem put_any15 (B N c a : Nat) (u : Value) (X l : List Nat) (b0 : Nat) (w : World) (ho : OwnU w b0 (.slice (some ⟨B, 0, none⟩) N c) X) (hX : X.length = N) (hu : ∀ w1, Chg (fun k => k = B) w w1 → KL .u64 w1 u l) (ha : a ≤ 100000) (hl : l.length ≤ 100000) (hN : N ≤ 100000) :
 Calls Tryz.prog 27 #[.slice (some ⟨B, 0, none⟩) N c, .int .i64 (a : Nat), u] w fun e w' => e = .returned (.tuple #[]) ∧ OwnU w' b0 (.slice (some ⟨B, 0, none⟩) N c) (putL X a l) ∧ Chg (fun k => k = B) w w' := by
 obtain ⟨n, hn⟩ : ∃ n, l.length = n := ⟨_, rfl⟩
 obtain ⟨A, cap, rfl, -⟩ := (hu w (Chg.refl _ _)).form hn
 have hC := lh (fun w1 i (hc : Chg (fun k => k = B) w w1) (hi : i < n) => show ∃ g off, A = some ⟨g, off, none⟩ ∧ n ≤ cap ∧ g < w1.heap.size ∧ w1.cell? ⟨g, off + i, none⟩ = some (.int .u64 (l.getD i 0 : Nat)) from by
  obtain ⟨A2, c2, hv2, h⟩ := (hu w1 hc).form hn
  cases hv2
  obtain ⟨g, off, h1, h2, h3, h4⟩ := h w1 i (Below.refl _ _) hi
  exact ⟨g, off, h1, h2, h3, h4⟩)
 have hst := lh (fun k => show putK X a l (k + 1) = (putK X a l k).set (a + k) (l.getD k 0) from rfl)
 have hpl := lh (fun k => (putK_len X a l k).trans hX)
 have hfin := lh (show putL X a l = putK X a l n from by unfold putL; rw [hn])
 have hstop := lh (fun j (hj : j ≤ n) (h : N ≤ a + j) => show putK X a l n = putK X a l j from by
  have := putK_stop X a l j (by omega) (n - j)
  rwa [show j + (n - j) = n from by omega] at this)
 replace hn := lh hn
 have hn9 : n ≤ 100000 := by have := hn.out; omega
 clear hu hl
 go_enter Tryz.func27, Tryz.ntmps27
 go_wp2_with fail
 go_loopw [6] (fun i wr => ∃ (j : Nat), j ≤ n ∧ i = .int .i64 j ∧ OwnU wr b0 (.slice (some ⟨B, 0, none⟩) N c) (putK X a l j) ∧ Chg (fun k => k = B) w wr) (fun i _ => n + 1 - (intOf i).toNat)
 case atStart => exact ⟨0, Nat.zero_le _, rfl, ho, Chg.refl _ _⟩
 case round =>
  obtain ⟨j, hj, rfl, hor, hcr⟩ := hrel
  clear ho
  have hw1 : IntKind.i64.wrap ((a : Int) + (j : Int)) = (a : Int) + (j : Int) := by rw [IntKind.wrap_i64]; omega
  by_cases hlt : j < n
  ·have hlt' : (j : Int) < (n : Int) := by omega
   by_cases hf : a + j < N
   ·have hf' : (a : Int) + (j : Int) < (N : Int) := by omega
    obtain ⟨g, off, rfl, hcap, hg, c0⟩ := hC.out wr j hcr hlt
    obtain ⟨d0, d1⟩ := hor.cell (hpl.out j) hf
    have ho2 := hor.set (y := l.getD j 0) (hpl.out j) hf
    rw [← hst.out j] at ho2
    have hc2 := hcr.trans (Chg.setCell (S := fun k => k = B) wr B (a + j) (.int .u64 (l.getD j 0 : Nat)) rfl) (fun k h => .inl h)
    generalize l.getD j 0 = x at *
    obtain ⟨q, hq⟩ : ∃ q, a + j = q := ⟨_, rfl⟩
    have hq' : (a : Int) + (j : Int) = (q : Int) := by omega
    rw [hq'] at hw1 hf'
    rw [hq] at d0 d1 ho2 hc2
    replace hq := lh hq
    have hq2 := hq'
    clear hor hcr hf
    go_wp2_with fail
    go_roundw
    case rel => exact ⟨j + 1, by omega, by go_num, ho2, hc2⟩
    case measure => first | (simp [intOf]; done) | (simp [intOf]; omega)
   ·have hf' : decide ((a : Int) + (j : Int) < (N : Int)) = false := decide_eq_false (by omega)
    have hs := lh (hstop.out j (by omega) (by omega))
    go_wp2_with fail
    (first | go_end0 | go_ret)
    exact ⟨rfl, by rw [hfin.out, hs.out]; exact hor, hcr⟩
  ·obtain rfl : j = n := by omega
   have hlt' : decide ((j : Int) < (j : Int)) = false := decide_eq_false (by omega)
   go_wp2_with fail
   (first | go_end0 | go_ret)
   exact ⟨rfl, by rw [hfin.out]; exact hor, hcr⟩
end Go.Proofs.YtkdhdibjbabgfaaGreatDoor
end
section
namespace Go.Proofs.YtkdhdibjbabgfaaGreatDoor
open Go.Lib Go.RowKit Go.ChangeShapes Go.WideShapes Go.Deep Go.Shelf
abbrev Itm := Nat × Nat × Nat × List Pe × List Ox
abbrev ItV := Nat × Nat × Nat × (Value × List Pe) × (Value × List Ox)
def eIt (x : ItV) : List Value := [.int .u8 (x.1 : Nat), .int .u8 (x.2.1 : Nat), .int .u64 (x.2.2.1 : Nat), slV x.2.2.2.1.1, slV x.2.2.2.2.1]
def itm (x : ItV) : Itm := (x.1, x.2.1, x.2.2.1, x.2.2.2.1.2, x.2.2.2.2.2)
def eSl (s : Nat × Nat) : List Value := [.int .u16 (s.1 : Nat), .int .u64 (s.2 : Nat)]
structure Gv where
 a : Nat
 b : Nat
 tiles : List Nat
 fill : List Nat
 items : List Itm
 root : Nat
 epoch : Nat
 spoil : List (Nat × Nat)
structure GvM (w : World) (vT vF vI vS : Value) (xs : List ItV) (p : Gv) : Prop where
 t : KL .u16 w vT p.tiles
 f : KL .u64 w vF p.fill
 i : EL 5 eIt w vI xs
 e : ∀ x ∈ xs, EN w x.2.2.2.1.1 x.2.2.2.1.2
 o : ∀ x ∈ xs, OPL w x.2.2.2.2.1 x.2.2.2.2.2
 x : xs.map itm = p.items
 s : EL 2 eSl w vS p.spoil
theorem GvM.keep {w w1 : World} {vT vF vI vS : Value} {xs : List ItV} {p : Gv} (h : GvM w vT vF vI vS xs p) (hb : Below w.heap.size w w1) : GvM w1 vT vF vI vS xs p :=
 ⟨h.t.keep hb, h.f.keep hb, h.i.keep hb, fun x hx => (h.e x hx).keep hb, fun x hx => (h.o x hx).keep hb, h.x, h.s.keep hb⟩
structure GvB (p : Gv) : Prop where
 a : p.a < 256
 b : p.b < 256
 t : HL p.tiles
 f : WL p.fill
 i : ∀ x ∈ p.items, x.1 < 256 ∧ x.2.1 < 256 ∧ x.2.2.1 < 18446744073709551616 ∧ (∀ e ∈ x.2.2.2.1, WL e.2) ∧ OVs x.2.2.2.2
 r : p.root < 18446744073709551616
 e : p.epoch < 18446744073709551616
 s : ∀ x ∈ p.spoil, x.1 < 65536 ∧ x.2 < 18446744073709551616
def gvV (p : Gv) (vT vF vI vS : Value) : Value := .agg #[.int .u8 (p.a : Nat), .int .u8 (p.b : Nat), vT, vF, vI, .int .u64 (p.root : Nat), .int .u64 (p.epoch : Nat), vS]
def gvC (p : Gv) (vT vF vI vS : Value) : Array Value := #[.int .u8 (p.a : Nat), .int .u8 (p.b : Nat), vT, vF, vI, .int .u64 (p.root : Nat), .int .u64 (p.epoch : Nat), vS]
theorem EN.sl {w : World} {v : Value} {l : List Pe} (h : EN w v l) : ∃ A c, v = .slice A l.length c := by
 obtain ⟨xs, h1, h2, h3⟩ := h
 obtain ⟨A, c, hv, _⟩ := h1
 exact ⟨A, c, by rw [hv, ← h3, List.length_map]⟩
theorem EL.sl {α : Type} [Inhabited α] {sz : Nat} {en : α → List Value} {w : World} {v : Value} {l : List α} (h : EL sz en w v l) : ∃ A c, v = .slice A l.length c := by
 obtain ⟨A, c, hv, _⟩ := h
 exact ⟨A, c, hv⟩
theorem GvM.item {w : World} {vT vF vS : Value} {AI : Option Addr} {n cI : Nat} {xs : List ItV} {p : Gv} (h : GvM w vT vF (.slice AI n cI) vS xs p) (hn : p.items.length = n) (w1 : World) (hb : Below w.heap.size w w1) (j : Nat) (hj : j < n) :
 ∃ g off ln st gn Ae ce Ao co es ops, AI = some ⟨g, off, none⟩ ∧ n ≤ cI ∧ g < w.heap.size ∧ p.items.getD j default = (ln, st, gn, es, ops) ∧ (ln, st, gn, es, ops) ∈ p.items ∧ EN w1 (.slice Ae es.length ce) es ∧ OPL w1 (.slice Ao ops.length co) ops ∧
   (w1.cell? ⟨g, off + j * 5, none⟩ = some (.int .u8 (ln : Nat)) ∧ w1.cell? ⟨g, off + j * 5 + 1, none⟩ = some (.int .u8 (st : Nat)) ∧ w1.cell? ⟨g, off + j * 5 + 2, none⟩ = some (.int .u64 (gn : Nat)) ∧ w1.cell? ⟨g, off + j * 5 + 3, none⟩ = some (.slice Ae es.length ce) ∧ w1.cell? ⟨g, off + j * 5 + 4, none⟩ = some (.slice Ao ops.length co)) := by
 have hl : xs.length = n := by rw [← hn, ← h.x, List.length_map]
 obtain ⟨A, c, hv, hc⟩ := EL.form h.i hl
 cases hv
 obtain ⟨g, off, rfl, h1, h2, h3, h4⟩ := hc w1 j hb hj
 have hm : xs.getD j default ∈ xs := by rw [List.getD_eq_getElem?_getD, List.getElem?_eq_getElem (by omega)]; exact List.getElem_mem _
 have hit : p.items.getD j default = itm (xs.getD j default) := by
  rw [← h.x, List.getD_eq_getElem?_getD, List.getD_eq_getElem?_getD, List.getElem?_map, List.getElem?_eq_getElem (by omega)]
  rfl
 have hE := (h.e _ hm).keep hb
 have hO := (h.o _ hm).keep hb
 have hmi : itm (xs.getD j default) ∈ p.items := by rw [← h.x]; exact List.mem_map_of_mem hm
 obtain ⟨q, hq⟩ : ∃ q, xs.getD j default = q := ⟨_, rfl⟩
 rw [hq] at hE hO hit hmi h4
 obtain ⟨ln, st, gn, ⟨ve, es⟩, ⟨vo, ops⟩⟩ := q
 simp only [] at hE hO
 obtain ⟨Ae, ce, rfl⟩ := hE.sl
 obtain ⟨Ao, co, rfl⟩ := EL.sl hO
 exact ⟨g, off, ln, st, gn, Ae, ce, Ao, co, es, ops, rfl, h1, h2, hit, hmi, hE, hO, h4 0 (by omega), h4 1 (by omega), h4 2 (by omega), h4 3 (by omega), h4 4 (by omega)⟩
def gvL (p : Gv) : Nat := 1 + p.a % 3
def gvG (p : Gv) : Nat := 1 + p.b % 8
def gvN (p : Gv) : Nat := 10 + 73 * gvL p + 33 * gvG p
theorem geom_any (p : Gv) (AT AF AI AS : Option Addr) (nT cT nF cF nI cI nS cS : Nat) (w : World) (hB : GvB p) :
 Calls Tryz.prog 12 #[gvV p (.slice AT nT cT) (.slice AF nF cF) (.slice AI nI cI) (.slice AS nS cS)] w fun e w' => e = .returned (.agg #[.int .i64 (gvN p : Nat), .int .i64 (gvL p : Nat)]) ∧ Below w.heap.size w w' := by
 have ha := hB.a
 have hb := hB.b
 unfold gvV gvN gvL gvG
 obtain ⟨a, hpa⟩ : ∃ a, p.a = a := ⟨_, rfl⟩
 obtain ⟨b, hpb⟩ : ∃ b, p.b = b := ⟨_, rfl⟩
 rw [hpa] at ha
 rw [hpb] at hb
 rw [hpa, hpb]
 generalize p.root = r
 generalize p.epoch = ep
 obtain ⟨a3, ha3⟩ : ∃ a3, a % 3 = a3 := ⟨_, rfl⟩
 obtain ⟨b8, hb8⟩ : ∃ b8, b % 8 = b8 := ⟨_, rfl⟩
 have m1 : (a : Int) % 3 = (a3 : Int) := by omega
 have m2 : (b : Int) % 8 = (b8 : Int) := by omega
 have m3 : (a : Int).tmod 3 = (a3 : Int) := by rw [Int.tmod_eq_emod_of_nonneg (by omega)]; exact m1
 have m4 : (b : Int).tmod 8 = (b8 : Int) := by rw [Int.tmod_eq_emod_of_nonneg (by omega)]; exact m2
 have hS := lh (fun w1 => show Calls Tryz.prog 37 #[.int .u8 (a3 : Nat), .int .u8 (b8 : Nat), .int .u8 0] w1 (fun e w' => e = .returned (.agg #[.int .i64 ((10 + 73 * (1 + a3) + 33 * (1 + b8) : Nat) : Int), .int .i64 ((1 + a3 : Nat) : Int)]) ∧ Below w1.heap.size w1 w') from by
  have h := small_any (a3 : Nat) (b8 : Nat) 0 w1 (by omega) (by omega) (by omega) (by omega) (by omega) (by omega)
  rw [show ((10 + 73 * (1 + a3) + 33 * (1 + b8) : Nat) : Int) = smW (a3 : Nat) (b8 : Nat) 0 from by unfold smW; omega, show ((1 + a3 : Nat) : Int) = smL (a3 : Nat) from by unfold smL; omega]
  exact h)
 rw [ha3, hb8]
 generalize 10 + 73 * (1 + a3) + 33 * (1 + b8) = N at *
 generalize 1 + a3 = L at *
 have hB1 := bZ w (.cells #[.int .u8 (a : Nat), .int .u8 (b : Nat), .slice AT nT cT, .slice AF nF cF, .slice AI nI cI, .int .u64 (r : Nat), .int .u64 (ep : Nat), .slice AS nS cS] 28)
 have gP := HB.new w #[.int .u8 (a : Nat), .int .u8 (b : Nat), .slice AT nT cT, .slice AF nF cF, .slice AI nI cI, .int .u64 (r : Nat), .int .u64 (ep : Nat), .slice AS nS cS] 28
 obtain ⟨wa, hwa⟩ : ∃ x, w.alloc (.cells #[.int .u8 (a : Nat), .int .u8 (b : Nat), .slice AT nT cT, .slice AF nF cF, .slice AI nI cI, .int .u64 (r : Nat), .int .u64 (ep : Nat), .slice AS nS cS] 28) = x := ⟨_, rfl⟩
 have hsa : wa.heap.size = w.heap.size + 1 := by rw [← hwa]; simp
 rw [hwa] at hB1 gP
 have gR := HB.new wa #[.int .i64 0, .int .i64 0] 33
 have e2 := bZ wa (.cells #[.int .i64 0, .int .i64 0] 33)
 have gP2 := gP.keep e2
 have hB2 := hB1.trans (e2.mono hB1.size)
 obtain ⟨wb, hwb⟩ : ∃ x, wa.alloc (.cells #[.int .i64 0, .int .i64 0] 33) = x := ⟨_, rfl⟩
 rw [hwb] at gP2 gR hB2
 rw [hsa] at gR
 obtain ⟨C, hC⟩ : ∃ C, w.heap.size = C := ⟨_, rfl⟩
 rw [hC] at gP2 gR hsa
 have p0 := (row_cell gP2 0).1
 have p1 := (row_cell gP2 1).1
 clear hB1 gP e2 m1 m2 ha3 hb8
 have m1 : (a : Int) % 3 = (a3 : Int) := by rw [← m3, Int.tmod_eq_emod_of_nonneg (by omega)]
 have m2 : (b : Int) % 8 = (b8 : Int) := by rw [← m4, Int.tmod_eq_emod_of_nonneg (by omega)]
 go_enter Tryz.func12, Tryz.ntmps12
 subst hwb hwa
 go_wp2_with fail
 refine (hS.out _).mono ?_
 rintro e w1 ⟨rfl, hb1⟩
 have gR1 := gR.keep hb1
 have hB3 := hB2.trans (hb1.mono hB2.size)
 obtain ⟨r0, f0⟩ := row_cell gR1 0
 obtain ⟨r1, f1⟩ := row_cell gR1 1
 obtain ⟨w9, h9, ⟨c0, c1⟩, hb9⟩ := st2_ex (HB.c2 gR1) (.int .i64 (N : Nat)) (.int .i64 (L : Nat))
 have hB9 := hB3.trans (hb9.mono (by omega))
 clear gP2 gR gR1 hb1 hb9 hB2 hB3 p0 p1 hS
 subst h9
 go_wp2_with fail
 refine bodyPost_ret (v := .agg #[.int .i64 (N : Nat), .int .i64 (L : Nat)]) (by simp [results, Tryz.results12, go_sem, c0, c1]) rfl ⟨rfl, hB9⟩
def fewI (x : Itm) : Bool := decide (x.2.2.2.1.length ≤ 12) && decide (x.2.2.2.2.length ≤ 22) && x.2.2.2.1.all fun e => decide (e.2.length ≤ 20)
def fewB (p : Gv) : Bool := decide (p.tiles.length ≤ 20 ∧ p.fill.length ≤ 40 ∧ p.items.length ≤ 4 ∧ p.spoil.length ≤ 4) && p.items.all fewI
theorem all_take_succ {α : Type} [Inhabited α] {l : List α} {P : α → Bool} {k : Nat} (h : k < l.length) (h1 : (l.take k).all P = true) (h2 : P (l.getD k default) = true) : (l.take (k + 1)).all P = true := by
 rw [List.take_succ_eq_append_getElem h, List.all_append, h1, Bool.true_and]
 rw [List.getD_eq_getElem?_getD, List.getElem?_eq_getElem h] at h2
 simp only [Option.getD_some] at h2
 simp [h2]
theorem all_bad {α : Type} [Inhabited α] {l : List α} {P : α → Bool} {k : Nat} (h : k < l.length) (h2 : P (l.getD k default) = false) : l.all P = false := by
 rw [List.getD_eq_getElem?_getD, List.getElem?_eq_getElem h] at h2
 simp only [Option.getD_some] at h2
 rw [Bool.eq_false_iff]
 intro q
 have := List.all_eq_true.1 q _ (List.getElem_mem h)
 rw [h2] at this
 cases this
end Go.Proofs.YtkdhdibjbabgfaaGreatDoor
end
section
namespace Go.Proofs.YtkdhdibjbabgfaaGreatDoor
open Go.Lib Go.RowKit Go.ChangeShapes Go.WideShapes Go.Deep Go.Shelf
theorem EN.at {w : World} {Ae : Option Addr} {ne ce : Nat} {es : List Pe} (h : EN w (.slice Ae ne ce) es) (hl : es.length = ne) (w1 : World) (hb : Below w.heap.size w w1) (k : Nat) (hk : k < ne) :
 ∃ g off a A l c, Ae = some ⟨g, off, none⟩ ∧ ne ≤ ce ∧ g < w.heap.size ∧ es.getD k default = (a, l) ∧ (a, l) ∈ es ∧ KL .u64 w1 (.slice A l.length c) l ∧ (w1.cell? ⟨g, off + k * 2, none⟩ = some (.int .i64 a) ∧ w1.cell? ⟨g, off + k * 2 + 1, none⟩ = some (.slice A l.length c)) := by
 obtain ⟨xs, h1, h2, h3⟩ := h
 have hx : xs.length = ne := by rw [← hl, ← h3, List.length_map]
 obtain ⟨A, c, hv, hc⟩ := EL.form h1 hx
 cases hv
 obtain ⟨g, off, rfl, q1, q2, q3, q4⟩ := hc w1 k hb hk
 have hm : xs.getD k default ∈ xs := by rw [List.getD_eq_getElem?_getD, List.getElem?_eq_getElem (by omega)]; exact List.getElem_mem _
 have hit : es.getD k default = px (xs.getD k default) := by
  rw [← h3, List.getD_eq_getElem?_getD, List.getD_eq_getElem?_getD, List.getElem?_map, List.getElem?_eq_getElem (by omega)]
  rfl
 have hmi : px (xs.getD k default) ∈ es := by rw [← h3]; exact List.mem_map_of_mem hm
 have hK := (h2 _ hm).keep hb
 obtain ⟨q, hq⟩ : ∃ q, xs.getD k default = q := ⟨_, rfl⟩
 rw [hq] at hK hit hmi q4
 obtain ⟨a, v, l⟩ := q
 simp only [] at hK
 obtain ⟨A2, c2, hv2, _⟩ := hK.form rfl
 subst hv2
 exact ⟨g, off, a, A2, l, c2, rfl, q1, q2, hit, hmi, hK, q4 0 (by omega), q4 1 (by omega)⟩
theorem few_any15 (p : Gv) (vT vF vI vS : Value) (xs : List ItV) (w : World) (hM : GvM w vT vF vI vS xs p) :
 Calls Tryz.prog 10 #[gvV p vT vF vI vS] w fun e w' => e = .returned (.bool (fewB p)) ∧ Below w.heap.size w w' := by
 obtain ⟨nT, hnT⟩ : ∃ n, p.tiles.length = n := ⟨_, rfl⟩
 obtain ⟨nF, hnF⟩ : ∃ n, p.fill.length = n := ⟨_, rfl⟩
 obtain ⟨nI, hnI⟩ : ∃ n, p.items.length = n := ⟨_, rfl⟩
 obtain ⟨nS, hnS⟩ : ∃ n, p.spoil.length = n := ⟨_, rfl⟩
 obtain ⟨AT, cT, rfl, -⟩ := hM.t.form hnT
 obtain ⟨AF, cF, rfl, -⟩ := hM.f.form hnF
 obtain ⟨AI, cI, rfl⟩ : ∃ A c, vI = .slice A nI c := by
  obtain ⟨A, c, h⟩ := EL.sl hM.i
  exact ⟨A, c, by rw [h, ← hnI, ← hM.x, List.length_map]⟩
 obtain ⟨AS, cS, rfl, -⟩ := EL.form hM.s hnS
 have hfe : fewB p = (decide (nT ≤ 20 ∧ nF ≤ 40 ∧ nI ≤ 4 ∧ nS ≤ 4) && p.items.all fewI) := by unfold fewB; rw [hnT, hnF, hnI, hnS]
 have hB1 := bZ w (.cells (gvC p (.slice AT nT cT) (.slice AF nF cF) (.slice AI nI cI) (.slice AS nS cS)) 28)
 have gP := HB.new w (gvC p (.slice AT nT cT) (.slice AF nF cF) (.slice AI nI cI) (.slice AS nS cS)) 28
 have hIt := lh (fun w1 (hb : Below w.heap.size w w1) j (hj : j < nI) => hM.item hnI w1 hb j hj)
 have hstep := lh (fun j (hj : j < nI) (h1 : (p.items.take j).all fewI = true) (h2 : fewI (p.items.getD j default) = true) => all_take_succ (l := p.items) (P := fewI) (k := j) (by omega) h1 h2)
 have hbad := lh (fun j (hj : j < nI) (h2 : fewI (p.items.getD j default) = false) => show fewB p = false from by rw [hfe, all_bad (l := p.items) (P := fewI) (k := j) (by omega) h2, Bool.and_false])
 have hall := lh (fun (h1 : nT ≤ 20 ∧ nF ≤ 40 ∧ nI ≤ 4 ∧ nS ≤ 4) (h : (p.items.take nI).all fewI = true) => show fewB p = true from by
  rw [hfe, decide_eq_true h1, Bool.true_and, ← h, List.take_of_length_le (by omega)])
 have hbig := lh (fun (h1 : ¬ (nT ≤ 20 ∧ nF ≤ 40 ∧ nI ≤ 4 ∧ nS ≤ 4)) => show fewB p = false from by rw [hfe, decide_eq_false h1, Bool.false_and])
 unfold gvC at hB1 gP
 unfold gvV
 generalize fewB p = R at *
 generalize p.a = a at *
 generalize p.b = b at *
 generalize p.root = r at *
 generalize p.epoch = ep at *
 have p2 := (row_cell gP 2).1
 have p3 := (row_cell gP 3).1
 have p4 := (row_cell gP 4).1
 have p7 := (row_cell gP 7).1
 obtain ⟨W1, hW1⟩ : ∃ W1, w.alloc (.cells #[.int .u8 (a : Nat), .int .u8 (b : Nat), .slice AT nT cT, .slice AF nF cF, .slice AI nI cI, .int .u64 (r : Nat), .int .u64 (ep : Nat), .slice AS nS cS] 28) = W1 := ⟨_, rfl⟩
 rw [hW1] at p2 p3 p4 p7 hB1
 obtain ⟨C, hC⟩ : ∃ C, w.heap.size = C := ⟨_, rfl⟩
 rw [hC] at p2 p3 p4 p7
 replace hnT := lh hnT
 replace hnF := lh hnF
 replace hnI := lh hnI
 replace hnS := lh hnS
 clear hfe gP hM
 by_cases h1' : 20 < nT
 ·have hno := lh (hbig.out (fun q => by omega))
  have d1 : (20 : Int) < (nT : Int) := by omega
  subst hW1
  go_enter Tryz.func10, Tryz.ntmps10
  go_wp2_with fail
  go_ret
  exact ⟨by rw [hno.out]; rfl, hB1⟩
 have e1 : decide ((20 : Int) < (nT : Int)) = false := decide_eq_false (by omega)
 by_cases h2' : 40 < nF
 ·have hno := lh (hbig.out (fun q => by omega))
  have d1 : (40 : Int) < (nF : Int) := by omega
  subst hW1
  go_enter Tryz.func10, Tryz.ntmps10
  go_wp2_with fail
  go_ret
  exact ⟨by rw [hno.out]; rfl, hB1⟩
 have e2 : decide ((40 : Int) < (nF : Int)) = false := decide_eq_false (by omega)
 by_cases h3' : 4 < nI
 ·have hno := lh (hbig.out (fun q => by omega))
  have d1 : (4 : Int) < (nI : Int) := by omega
  subst hW1
  go_enter Tryz.func10, Tryz.ntmps10
  go_wp2_with fail
  go_ret
  exact ⟨by rw [hno.out]; rfl, hB1⟩
 have e3 : decide ((4 : Int) < (nI : Int)) = false := decide_eq_false (by omega)
 by_cases h4' : 4 < nS
 ·have hno := lh (hbig.out (fun q => by omega))
  have d1 : (4 : Int) < (nS : Int) := by omega
  subst hW1
  go_enter Tryz.func10, Tryz.ntmps10
  go_wp2_with fail
  go_ret
  exact ⟨by rw [hno.out]; rfl, hB1⟩
 have e4 : decide ((4 : Int) < (nS : Int)) = false := decide_eq_false (by omega)
 replace hall := lh (hall.out (by omega))
 clear hbig
 have h0 : Hid ((p.items.take 0).all fewI = true) := lh (by simp)
 go_enter Tryz.func10, Tryz.ntmps10
 rw [hC]
 subst hW1
 go_wp2_with fail
 obtain ⟨W1, hW1⟩ : ∃ W1, w.alloc (.cells #[.int .u8 (a : Nat), .int .u8 (b : Nat), .slice AT nT cT, .slice AF nF cF, .slice AI nI cI, .int .u64 (r : Nat), .int .u64 (ep : Nat), .slice AS nS cS] 28) = W1 := ⟨_, rfl⟩
 rw [hW1] at p2 p3 p4 p7 hB1 ⊢
 clear hW1
 go_loopw [3] (fun i wr => ∃ (j : Nat), j ≤ nI ∧ i = .int .i64 j ∧ Hid ((p.items.take j).all fewI = true) ∧ wr = W1) (fun i _ => nI + 1 - (intOf i).toNat)
 case atStart => exact ⟨0, Nat.zero_le _, rfl, h0, rfl⟩
 case round =>
  obtain ⟨j, hj, rfl, hA, rfl⟩ := hrel
  by_cases hlt : j < nI
  ·have hlt' : (j : Int) < (nI : Int) := by omega
   obtain ⟨g, off, ln, st, gn, Ae, ce, Ao, co, es, ops, rfl, hcI, hg, hit, hmem, hE, hO, c0, c1, c2, c3, c4⟩ := hIt.out wr hB1 j hlt
   obtain ⟨ne, hne⟩ : ∃ n, es.length = n := ⟨_, rfl⟩
   obtain ⟨no, hno⟩ : ∃ n, ops.length = n := ⟨_, rfl⟩
   have hfi : fewI (ln, st, gn, es, ops) = (decide (ne ≤ 12) && decide (no ≤ 22) && es.all fun e => decide (e.2.length ≤ 20)) := by unfold fewI; simp only []; rw [hne, hno]
   rw [hne] at hE c3
   rw [hno] at hO c4
   have hsj := hstep.out j hlt hA.out
   have hbj := hbad.out j hlt
   rw [hit] at hsj hbj
   replace hne := lh hne
   replace hno := lh hno
   by_cases f1 : 12 < ne
   ·have hR := lh (hbj (by rw [hfi, decide_eq_false (by omega)]; rfl))
    have f1' : (12 : Int) < (ne : Int) := by omega
    clear hsj hbj hfi hit
    go_wp2_with fail
    go_ret
    exact ⟨by rw [hR.out]; rfl, by first | exact hB1 | (rw [← hC]; exact hB1)⟩
   by_cases f2 : 22 < no
   ·have hR := lh (hbj (by rw [hfi, decide_eq_false (p := no ≤ 22) (by omega), Bool.and_false]; rfl))
    have f1' : decide ((12 : Int) < (ne : Int)) = false := decide_eq_false (by omega)
    have f2' : (22 : Int) < (no : Int) := by omega
    clear hsj hbj hfi hit
    go_wp2_with fail
    go_ret
    exact ⟨by rw [hR.out]; rfl, by first | exact hB1 | (rw [← hC]; exact hB1)⟩
   have f1' : decide ((12 : Int) < (ne : Int)) = false := decide_eq_false (by omega)
   have f2' : decide ((22 : Int) < (no : Int)) = false := decide_eq_false (by omega)
   have hfi2 : fewI (ln, st, gn, es, ops) = es.all fun e => decide (e.2.length ≤ 20) := by rw [hfi, decide_eq_true (p := no ≤ 22) (by omega), decide_eq_true (p := ne ≤ 12) (by omega)]; rfl
   have hEa := lh (fun k (hk : k < ne) => hE.at hne.out wr (Below.refl _ _) k hk)
   have hst2 := lh (fun k (hk : k < ne) (q1 : (es.take k).all (fun e => decide (e.2.length ≤ 20)) = true) (q2 : decide ((es.getD k default).2.length ≤ 20) = true) => all_take_succ (l := es) (P := fun e => decide (e.2.length ≤ 20)) (k := k) (by have := hne.out; omega) q1 q2)
   have hbd2 := lh (fun k (hk : k < ne) (q2 : decide ((es.getD k default).2.length ≤ 20) = false) => hbj (by rw [hfi2]; exact all_bad (l := es) (P := fun e => decide (e.2.length ≤ 20)) (k := k) (by have := hne.out; omega) q2))
   have hdn := lh (fun (q : (es.take ne).all (fun e => decide (e.2.length ≤ 20)) = true) => hsj (by rw [hfi2, ← q, List.take_of_length_le (by have := hne.out; omega)]))
   have h02 : Hid ((es.take 0).all (fun e => decide (e.2.length ≤ 20)) = true) := lh (by simp)
   have hn12 : ne ≤ 12 := by omega
   clear hsj hbj hfi hfi2 hit hE hO
   go_wp2_with fail
   go_loopw [4] (fun i wq => ∃ (k : Nat), k ≤ ne ∧ i = .int .i64 k ∧ Hid ((es.take k).all (fun e => decide (e.2.length ≤ 20)) = true) ∧ wq = wr) (fun i _ => ne + 1 - (intOf i).toNat)
   case atStart => exact ⟨0, Nat.zero_le _, rfl, h02, rfl⟩
   case round =>
    obtain ⟨k, hk, rfl, hAk, rfl⟩ := hrel
    by_cases hltk : k < ne
    ·have hltk' : (k : Int) < (ne : Int) := by omega
     obtain ⟨ge, oe, ea, eA, el, ec, rfl, q1, q2, q3, q4, q5, d0, d1⟩ := hEa.out k hltk
     obtain ⟨el9, hel⟩ : ∃ n, el.length = n := ⟨_, rfl⟩
     have hs2 := hst2.out k hltk hAk.out
     have hb2 := hbd2.out k hltk
     rw [q3] at hs2 hb2
     simp only [] at hs2 hb2
     rw [hel] at d1 hs2 hb2
     replace hel := lh hel
     by_cases f3 : 20 < el9
     ·have hR := lh (hb2 (decide_eq_false (by omega)))
      have f3' : (20 : Int) < (el9 : Int) := by omega
      clear hs2 hb2 q3
      go_wp2_with fail
      go_ret
      exact ⟨by rw [hR.out]; rfl, by first | exact hB1 | (rw [← hC]; exact hB1)⟩
     ·have hR := lh (hs2 (decide_eq_true (by omega)))
      have f3' : decide ((20 : Int) < (el9 : Int)) = false := decide_eq_false (by omega)
      clear hs2 hb2 q3
      go_wp2_with fail
      go_roundw
      case rel => exact ⟨k + 1, by omega, by go_num, hR, by trivial⟩
      case measure => first | (simp [intOf]; done) | (simp [intOf]; omega)
    ·obtain rfl : k = ne := by omega
     have hR := lh (hdn.out hAk.out)
     have hltk' : decide ((k : Int) < (k : Int)) = false := decide_eq_false (by omega)
     go_wp2_with fail
     go_roundw
     case rel => exact ⟨j + 1, by omega, by go_num, hR, by trivial⟩
     case measure => first | (simp [intOf]; done) | (simp [intOf]; omega)
  ·obtain rfl : j = nI := by omega
   have hR := lh (hall.out hA.out)
   have hlt' : decide ((j : Int) < (j : Int)) = false := decide_eq_false (by omega)
   go_wp2_with fail
   go_ret
   exact ⟨by rw [hR.out]; rfl, by first | exact hB1 | (rw [← hC]; exact hB1)⟩
end Go.Proofs.YtkdhdibjbabgfaaGreatDoor
end
section
namespace Go.Proofs.YtkdhdibjbabgfaaGreatDoor
open Go.RowKit Go.ChangeShapes Go.WideShapes Go.Deep
theorem halves_open {H : Type} {enc : TypeId × Value → H} {P : Program} {W : World} {t e : TypeId} (ht : P.underlying t = some (.slice e)) (he : P.underlying e = some (.int .u16)) (hc : P.cellsOf e = 1) {ad : Option Addr} {len cap : Nat} {d : DataW H} {p : List MemPlace}
 (h : DataW.Trod enc P W 0 (fun _ => true) true t (.slice ad len cap) d p) : ∃ l : List Nat, HL l ∧ KL .u16 W (.slice ad len cap) l := by
 obtain ⟨fuel, hf⟩ := h
 rcases open_ints ht he hc hf with ⟨hcs, _⟩ | ⟨a, len', cap', zs, hcs, _, hl, hm, hz, _, hcell, hwz⟩
 ·simp [Value.cells] at hcs
  obtain ⟨rfl, rfl, rfl⟩ := hcs
  exact ⟨[], fun x hx => by simp at hx, none, 0, rfl, fun h => by simp at h⟩
 ·simp [Value.cells] at hcs
  obtain ⟨rfl, rfl, rfl⟩ := hcs
  simp only [if_true] at hz
  have hb : ∀ z ∈ zs, 0 ≤ z ∧ z ≤ 65535 := fun z hz => bounds_u16 (hwz z hz)
  have hlen : ((zs.take len).map Int.toNat).length = len := by simp; omega
  refine ⟨(zs.take len).map Int.toNat, fun x hx => ?_, some a, cap, by rw [hlen], fun h0 => ?_⟩
  ·obtain ⟨z, hz1, rfl⟩ := List.mem_map.1 hx
   have := hb z (List.mem_of_mem_take hz1)
   omega
  ·rw [hlen] at h0 ⊢
   have hc0 := hcell 0 (by omega)
   have hsp : a.spot = none := by
    have := spot_none hc0
    unfold Addr.add at this
    simpa using this
   obtain ⟨g, off, sp⟩ := a
   simp only at hsp
   subst hsp
   refine ⟨g, off, rfl, ?_, by omega, fun i hil => ?_⟩
   ·have := World.block_lt_of_cell? _ _ hc0
    simpa [add_plain] using this
   ·have := hcell i (by omega)
    rw [add_plain] at this
    rw [this]
    have hzi : i < zs.length := by omega
    have e1 : ((zs.take len).map Int.toNat).getD i 0 = (zs[i]).toNat := by
     rw [List.getD_eq_getElem?_getD, List.getElem?_map, List.getElem?_take, if_pos hil, List.getElem?_eq_getElem hzi]
     rfl
    have e2 : zs.getD i 0 = zs[i] := by rw [List.getD_eq_getElem?_getD, List.getElem?_eq_getElem hzi]; rfl
    rw [e1, e2, Int.toNat_of_nonneg (hb _ (List.getElem_mem hzi)).1]
def XOk (W : World) (x : Ex) : Prop := WL x.2.2 ∧ KL .u64 W x.2.1 x.2.2
def XL (W : World) (l : List Ex) : Prop := l.length ≤ 9223372036854775807 ∧ ∀ x ∈ l, XOk W x
def XPL (w : World) (v : Value) (l : List Ex) : Prop := EL 2 eS w v l
theorem XL.en {W : World} {v : Value} {l : List Ex} (h : XL W l) (hv : XPL W v l) : EN W v (l.map px) := ⟨l, hv, fun x hx => (h.2 x hx).2, rfl⟩
theorem XL.len {W : World} {l : List Ex} (h : XL W l) : (l.map px).length ≤ 9223372036854775807 := by rw [List.length_map]; exact h.1
theorem XL.wl {W : World} {l : List Ex} (h : XL W l) : ∀ x ∈ l.map px, WL x.2 := fun x hx => by
 obtain ⟨y, hy, rfl⟩ := List.mem_map.1 hx
 exact (h.2 y hy).1
theorem ci : Tryz.prog.cellsOf 3 = 1 := by kernel_rfl
theorem cl64 : Tryz.prog.cellsOf 23 = 1 := by kernel_rfl
theorem cEn : Tryz.prog.cellsOf 64 = 2 := by kernel_rfl
theorem entry_read {H : Type} {enc : TypeId × Value → H} {W : World} {fuel : Nat} {cs : List Value} {x : DataW H × List MemPlace} (hl : cs.length = 2) (h : DataW.trod enc Tryz.prog W 0 (fun _ => true) true fuel 64 cs = some x) :
 ∃ o : Ex, XOk W o ∧ cs = eS o := by
 obtain ⟨xs, n, _, rfl, _, hxl, hf⟩ := DataW.trod_struct Tryz.underlying64 h
 match xs, hxl, cs, hl with
 | [y0, y1], _, [u0, u1], _ =>
   have g0 : DataW.trod enc Tryz.prog W 0 (fun _ => true) true n 3 ((([u0, u1] : List Value).drop 0).take (Tryz.prog.cellsOf 3)) = some y0 := hf 0 _ rfl
   have g1 : DataW.trod enc Tryz.prog W 0 (fun _ => true) true n 23 ((([u0, u1] : List Value).drop 1).take (Tryz.prog.cellsOf 23)) = some y1 := hf 1 _ rfl
   rw [ci] at g0
   rw [cl64] at g1
   obtain ⟨a0, e0, rfl, w0⟩ := DataW.trod_int Tryz.underlying3 g0
   simp at e0
   subst e0
   have hs : ∃ ad len cap, u1 = .slice ad len cap := by
    rcases open_slice Tryz.underlying23 g1 with ⟨hcs, _⟩ | ⟨a, len', cap', m, n', D, Pl, hcs, _⟩
    ·simp at hcs; exact ⟨none, 0, 0, hcs⟩
    ·simp at hcs; exact ⟨some a, len', cap', hcs⟩
   obtain ⟨ad, len, cap, rfl⟩ := hs
   obtain ⟨d1, p1⟩ := y1
   have hT : DataW.Trod enc Tryz.prog W 0 (fun _ => true) true 23 (.slice ad len cap) d1 p1 := ⟨n, by simpa [Value.cells] using g1⟩
   obtain ⟨l, hl, hk⟩ := wordsK_open Tryz.underlying23 Tryz.underlying25 (by kernel_rfl) hT
   exact ⟨(a0, .slice ad len cap, l), ⟨hl, hk⟩, rfl⟩
theorem ents_open {H : Type} {enc : TypeId × Value → H} {W : World} {ad : Option Addr} {len cap : Nat} {d : DataW H} {p : List MemPlace}
 (h : DataW.Trod enc Tryz.prog W 0 (fun _ => true) true 60 (.slice ad len cap) d p) : ∃ l : List Ex, XL W l ∧ XPL W (.slice ad len cap) l :=
 els_open (Ok := XOk W) Tryz.underlying60 cEn (by decide) (fun fuel cs x hl hx => entry_read hl hx) h
def OB (o : Ox) : Prop := -9223372036854775808 ≤ o.1 ∧ o.1 ≤ 9223372036854775807 ∧ -9223372036854775808 ≤ o.2.1 ∧ o.2.1 ≤ 9223372036854775807 ∧ o.2.2 < 18446744073709551616
def OL (l : List Ox) : Prop := l.length ≤ 9223372036854775807 ∧ ∀ o ∈ l, OB o
theorem OL.ov {l : List Ox} (h : OL l) : ∀ o ∈ l, o.2.2 < 18446744073709551616 := fun o ho => (h.2 o ho).2.2.2.2
theorem ops_open {H : Type} {enc : TypeId × Value → H} {W : World} {ad : Option Addr} {len cap : Nat} {d : DataW H} {p : List MemPlace}
 (h : DataW.Trod enc Tryz.prog W 0 (fun _ => true) true 35 (.slice ad len cap) d p) : ∃ l : List Ox, OL l ∧ OPL W (.slice ad len cap) l := by
 refine els_open (Ok := OB) Tryz.underlying35 (by kernel_rfl) (by decide) (fun fuel cs x hl hx => ?_) h
 obtain ⟨xs, n, _, _, _, hxl, hf⟩ := DataW.trod_struct Tryz.underlying53 hx
 match xs, hxl, cs, hl with
 | [y0, y1, y2], _, [v0, v1, v2], _ =>
   have ci : Tryz.prog.cellsOf 3 = 1 := by kernel_rfl
   have cu : Tryz.prog.cellsOf 25 = 1 := by kernel_rfl
   have g0 : DataW.trod enc Tryz.prog W 0 (fun _ => true) true n 3 ((([v0, v1, v2] : List Value).drop 0).take (Tryz.prog.cellsOf 3)) = some y0 := hf 0 _ rfl
   have g1 : DataW.trod enc Tryz.prog W 0 (fun _ => true) true n 3 ((([v0, v1, v2] : List Value).drop 1).take (Tryz.prog.cellsOf 3)) = some y1 := hf 1 _ rfl
   have g2 : DataW.trod enc Tryz.prog W 0 (fun _ => true) true n 25 ((([v0, v1, v2] : List Value).drop 2).take (Tryz.prog.cellsOf 25)) = some y2 := hf 2 _ rfl
   rw [ci] at g0 g1
   rw [cu] at g2
   obtain ⟨a0, e0, _, w0⟩ := DataW.trod_int Tryz.underlying3 g0
   obtain ⟨a1, e1, _, w1⟩ := DataW.trod_int Tryz.underlying3 g1
   obtain ⟨a2, e2, _, w2⟩ := DataW.trod_int Tryz.underlying25 g2
   simp at e0 e1 e2
   subst e0 e1 e2
   have b0 := bounds_i64 w0
   have b1 := bounds_i64 w1
   have b2 := bounds_u64 w2
   obtain ⟨n2, rfl⟩ := Int.eq_ofNat_of_zero_le (show 0 ≤ a2 by omega)
   exact ⟨(a0, a1, n2), ⟨by simp only []; omega, by simp only []; omega, by simp only []; omega, by simp only []; omega, by simp only []; omega⟩, rfl⟩
theorem sl_cell {H : Type} {enc : TypeId × Value → H} {P : Program} {W : World} {n : Nat} {t e : TypeId} {u : Value} {y : DataW H × List MemPlace} (ht : P.underlying t = some (.slice e)) (h : DataW.trod enc P W 0 (fun _ => true) true n t [u] = some y) :
 ∃ ad len cap, u = .slice ad len cap ∧ DataW.Trod enc P W 0 (fun _ => true) true t (.slice ad len cap) y.1 y.2 := by
 have hs : ∃ ad len cap, u = .slice ad len cap := by
  obtain ⟨d, p⟩ := y
  rcases open_slice ht h with ⟨hcs, _⟩ | ⟨a, len', cap', m, n', D, Pl, hcs, _⟩
  ·simp at hcs; exact ⟨none, 0, 0, hcs⟩
  ·simp at hcs; exact ⟨some a, len', cap', hcs⟩
 obtain ⟨ad, len, cap, rfl⟩ := hs
 exact ⟨ad, len, cap, rfl, ⟨n, by obtain ⟨d, p⟩ := y; simpa [Value.cells] using h⟩⟩
def ItOk (W : World) (x : ItV) : Prop := x.1 < 256 ∧ x.2.1 < 256 ∧ x.2.2.1 < 18446744073709551616 ∧ EN W x.2.2.2.1.1 x.2.2.2.1.2 ∧ (∀ e ∈ x.2.2.2.1.2, WL e.2) ∧ OPL W x.2.2.2.2.1 x.2.2.2.2.2 ∧ OVs x.2.2.2.2.2
def SlOk (x : Nat × Nat) : Prop := x.1 < 65536 ∧ x.2 < 18446744073709551616
theorem c8 : Tryz.prog.cellsOf 5 = 1 := by kernel_rfl
theorem c16 : Tryz.prog.cellsOf 48 = 1 := by kernel_rfl
theorem c64 : Tryz.prog.cellsOf 25 = 1 := by kernel_rfl
theorem cls : Tryz.prog.cellsOf 60 = 1 ∧ Tryz.prog.cellsOf 35 = 1 ∧ Tryz.prog.cellsOf 22 = 1 ∧ Tryz.prog.cellsOf 24 = 1 ∧ Tryz.prog.cellsOf 26 = 1 := by refine ⟨?_, ?_, ?_, ?_, ?_⟩ <;> kernel_rfl
theorem item_read {H : Type} {enc : TypeId × Value → H} {W : World} {fuel : Nat} {cs : List Value} {x : DataW H × List MemPlace} (hl : cs.length = 5) (h : DataW.trod enc Tryz.prog W 0 (fun _ => true) true fuel 62 cs = some x) :
 ∃ o : ItV, ItOk W o ∧ cs = eIt o := by
 obtain ⟨xs, n, _, rfl, _, hxl, hf⟩ := DataW.trod_struct Tryz.underlying62 h
 match xs, hxl, cs, hl with
 | [y0, y1, y2, y3, y4], _, [u0, u1, u2, u3, u4], _ =>
   have g0 : DataW.trod enc Tryz.prog W 0 (fun _ => true) true n 5 ((([u0, u1, u2, u3, u4] : List Value).drop 0).take (Tryz.prog.cellsOf 5)) = some y0 := hf 0 _ rfl
   have g1 : DataW.trod enc Tryz.prog W 0 (fun _ => true) true n 5 ((([u0, u1, u2, u3, u4] : List Value).drop 1).take (Tryz.prog.cellsOf 5)) = some y1 := hf 1 _ rfl
   have g2 : DataW.trod enc Tryz.prog W 0 (fun _ => true) true n 25 ((([u0, u1, u2, u3, u4] : List Value).drop 2).take (Tryz.prog.cellsOf 25)) = some y2 := hf 2 _ rfl
   have g3 : DataW.trod enc Tryz.prog W 0 (fun _ => true) true n 60 ((([u0, u1, u2, u3, u4] : List Value).drop 3).take (Tryz.prog.cellsOf 60)) = some y3 := hf 3 _ rfl
   have g4 : DataW.trod enc Tryz.prog W 0 (fun _ => true) true n 35 ((([u0, u1, u2, u3, u4] : List Value).drop 4).take (Tryz.prog.cellsOf 35)) = some y4 := hf 4 _ rfl
   rw [c8] at g0 g1
   rw [c64] at g2
   rw [cls.1] at g3
   rw [cls.2.1] at g4
   obtain ⟨a0, e0, _, w0⟩ := DataW.trod_int Tryz.underlying5 g0
   obtain ⟨a1, e1, _, w1⟩ := DataW.trod_int Tryz.underlying5 g1
   obtain ⟨a2, e2, _, w2⟩ := DataW.trod_int Tryz.underlying25 g2
   simp at e0 e1 e2
   subst e0 e1 e2
   have b0 := bounds_u8 w0
   have b1 := bounds_u8 w1
   have b2 := bounds_u64 w2
   obtain ⟨n0, rfl⟩ := Int.eq_ofNat_of_zero_le (show 0 ≤ a0 by omega)
   obtain ⟨n1, rfl⟩ := Int.eq_ofNat_of_zero_le (show 0 ≤ a1 by omega)
   obtain ⟨n2, rfl⟩ := Int.eq_ofNat_of_zero_le (show 0 ≤ a2 by omega)
   obtain ⟨A3, l3, c3, rfl, T3⟩ := sl_cell Tryz.underlying60 g3
   obtain ⟨A4, l4, c4, rfl, T4⟩ := sl_cell Tryz.underlying35 g4
   obtain ⟨es, h3, k3⟩ := ents_open T3
   obtain ⟨os, h4, k4⟩ := ops_open T4
   exact ⟨(n0, n1, n2, (.slice A3 l3 c3, es.map px), (.slice A4 l4 c4, os)), ⟨by simp only []; omega, by simp only []; omega, by simp only []; omega, h3.en k3, h3.wl, k4, h4.ov⟩, rfl⟩
theorem spoil_read {H : Type} {enc : TypeId × Value → H} {W : World} {fuel : Nat} {cs : List Value} {x : DataW H × List MemPlace} (hl : cs.length = 2) (h : DataW.trod enc Tryz.prog W 0 (fun _ => true) true fuel 79 cs = some x) :
 ∃ o : Nat × Nat, SlOk o ∧ cs = eSl o := by
 obtain ⟨xs, n, _, rfl, _, hxl, hf⟩ := DataW.trod_struct Tryz.underlying79 h
 match xs, hxl, cs, hl with
 | [y0, y1], _, [u0, u1], _ =>
   have g0 : DataW.trod enc Tryz.prog W 0 (fun _ => true) true n 48 ((([u0, u1] : List Value).drop 0).take (Tryz.prog.cellsOf 48)) = some y0 := hf 0 _ rfl
   have g1 : DataW.trod enc Tryz.prog W 0 (fun _ => true) true n 25 ((([u0, u1] : List Value).drop 1).take (Tryz.prog.cellsOf 25)) = some y1 := hf 1 _ rfl
   rw [c16] at g0
   rw [c64] at g1
   obtain ⟨a0, e0, _, w0⟩ := DataW.trod_int Tryz.underlying48 g0
   obtain ⟨a1, e1, _, w1⟩ := DataW.trod_int Tryz.underlying25 g1
   simp at e0 e1
   subst e0 e1
   have b0 := bounds_u16 w0
   have b1 := bounds_u64 w1
   obtain ⟨n0, rfl⟩ := Int.eq_ofNat_of_zero_le (show 0 ≤ a0 by omega)
   obtain ⟨n1, rfl⟩ := Int.eq_ofNat_of_zero_le (show 0 ≤ a1 by omega)
   exact ⟨(n0, n1), ⟨by simp only []; omega, by simp only []; omega⟩, rfl⟩
abbrev Gx := (Value × Value × Value × Value) × List ItV × Gv
def GOk (W : World) (g : Gx) : Prop := GvM W g.1.1 g.1.2.1 g.1.2.2.1 g.1.2.2.2 g.2.1 g.2.2 ∧ GvB g.2.2
def gxV (g : Gx) : Value := gvV g.2.2 g.1.1 g.1.2.1 g.1.2.2.1 g.1.2.2.2
theorem given_open {H : Type} {enc : TypeId × Value → H} {W : World} {r : Reach} {b1 : Nat} {v : Value} {d : DataW H} {p : List MemPlace} (hv : Value.okWide Tryz.prog W r b1 28 v) (h : DataW.Trod enc Tryz.prog W 0 (fun _ => true) true 28 v d p) :
 ∃ g : Gx, GOk W g ∧ v = gxV g := by
 obtain ⟨cs, rfl, hsz⟩ := okWide_struct Tryz.underlying28 hv
 obtain ⟨fuel, h⟩ := h
 rw [show Tryz.prog.cellsOf 28 = 8 by kernel_rfl] at hsz
 obtain ⟨xs, n, _, _, _, hxl, hf⟩ := DataW.trod_struct Tryz.underlying28 h
 have hl : (Value.agg cs).cells.toList.length = 8 := by simpa [Value.cells] using hsz
 have hcs : (Value.agg cs).cells.toList = cs.toList := rfl
 rw [hcs] at hf hl
 obtain ⟨ls, hls⟩ : ∃ ls, cs.toList = ls := ⟨_, rfl⟩
 rw [hls] at hf hl
 match xs, hxl, ls, hl, hls with
 | [y0, y1, y2, y3, y4, y5, y6, y7], _, [u0, u1, u2, u3, u4, u5, u6, u7], _, hls =>
   have g0 : DataW.trod enc Tryz.prog W 0 (fun _ => true) true n 5 ((([u0, u1, u2, u3, u4, u5, u6, u7] : List Value).drop 0).take (Tryz.prog.cellsOf 5)) = some y0 := hf 0 _ rfl
   have g1 : DataW.trod enc Tryz.prog W 0 (fun _ => true) true n 5 ((([u0, u1, u2, u3, u4, u5, u6, u7] : List Value).drop 1).take (Tryz.prog.cellsOf 5)) = some y1 := hf 1 _ rfl
   have g2 : DataW.trod enc Tryz.prog W 0 (fun _ => true) true n 22 ((([u0, u1, u2, u3, u4, u5, u6, u7] : List Value).drop 2).take (Tryz.prog.cellsOf 22)) = some y2 := hf 2 _ rfl
   have g3 : DataW.trod enc Tryz.prog W 0 (fun _ => true) true n 23 ((([u0, u1, u2, u3, u4, u5, u6, u7] : List Value).drop 3).take (Tryz.prog.cellsOf 23)) = some y3 := hf 3 _ rfl
   have g4 : DataW.trod enc Tryz.prog W 0 (fun _ => true) true n 24 ((([u0, u1, u2, u3, u4, u5, u6, u7] : List Value).drop 4).take (Tryz.prog.cellsOf 24)) = some y4 := hf 4 _ rfl
   have g5 : DataW.trod enc Tryz.prog W 0 (fun _ => true) true n 25 ((([u0, u1, u2, u3, u4, u5, u6, u7] : List Value).drop 5).take (Tryz.prog.cellsOf 25)) = some y5 := hf 5 _ rfl
   have g6 : DataW.trod enc Tryz.prog W 0 (fun _ => true) true n 25 ((([u0, u1, u2, u3, u4, u5, u6, u7] : List Value).drop 6).take (Tryz.prog.cellsOf 25)) = some y6 := hf 6 _ rfl
   have g7 : DataW.trod enc Tryz.prog W 0 (fun _ => true) true n 26 ((([u0, u1, u2, u3, u4, u5, u6, u7] : List Value).drop 7).take (Tryz.prog.cellsOf 26)) = some y7 := hf 7 _ rfl
   rw [c8] at g0 g1
   rw [cls.2.2.1] at g2
   rw [cl64] at g3
   rw [cls.2.2.2.1] at g4
   rw [c64] at g5 g6
   rw [cls.2.2.2.2] at g7
   obtain ⟨a0, e0, _, w0⟩ := DataW.trod_int Tryz.underlying5 g0
   simp at e0
   subst e0
   have b0 := bounds_u8 w0
   obtain ⟨n0, rfl⟩ := Int.eq_ofNat_of_zero_le (show 0 ≤ a0 by omega)
   obtain ⟨a1, e1, _, w1⟩ := DataW.trod_int Tryz.underlying5 g1
   simp at e1
   subst e1
   have b1 := bounds_u8 w1
   obtain ⟨n1, rfl⟩ := Int.eq_ofNat_of_zero_le (show 0 ≤ a1 by omega)
   obtain ⟨a5, e5, _, w5⟩ := DataW.trod_int Tryz.underlying25 g5
   simp at e5
   subst e5
   have b5 := bounds_u64 w5
   obtain ⟨n5, rfl⟩ := Int.eq_ofNat_of_zero_le (show 0 ≤ a5 by omega)
   obtain ⟨a6, e6, _, w6⟩ := DataW.trod_int Tryz.underlying25 g6
   simp at e6
   subst e6
   have b6 := bounds_u64 w6
   obtain ⟨n6, rfl⟩ := Int.eq_ofNat_of_zero_le (show 0 ≤ a6 by omega)
   obtain ⟨A2, l2, c2, rfl, T2⟩ := sl_cell Tryz.underlying22 g2
   obtain ⟨A3, l3, c3, rfl, T3⟩ := sl_cell Tryz.underlying23 g3
   obtain ⟨A4, l4, c4, rfl, T4⟩ := sl_cell Tryz.underlying24 g4
   obtain ⟨A7, l7, c7, rfl, T7⟩ := sl_cell Tryz.underlying26 g7
   obtain ⟨lt, ht, kt⟩ := halves_open Tryz.underlying22 Tryz.underlying48 (by kernel_rfl) T2
   obtain ⟨lf, hf2, kf⟩ := wordsK_open Tryz.underlying23 Tryz.underlying25 (by kernel_rfl) T3
   obtain ⟨li, hi, ki⟩ := els_open (Ok := ItOk W) Tryz.underlying24 (show Tryz.prog.cellsOf 62 = 5 by kernel_rfl) (by decide) (fun fuel cs x hl hx => item_read hl hx) T4
   obtain ⟨ls7, hs, ks⟩ := els_open (Ok := SlOk) Tryz.underlying26 (show Tryz.prog.cellsOf 79 = 2 by kernel_rfl) (by decide) (fun fuel cs x hl hx => spoil_read hl hx) T7
   refine ⟨((.slice A2 l2 c2, .slice A3 l3 c3, .slice A4 l4 c4, .slice A7 l7 c7), li, ⟨n0, n1, lt, lf, li.map itm, n5, n6, ls7⟩), ⟨⟨kt, kf, ki, fun x hx => (hi.2 x hx).2.2.2.1, fun x hx => (hi.2 x hx).2.2.2.2.2.1, rfl, ks⟩, ⟨by simp only []; omega, by simp only []; omega, ht, hf2, fun x hx => ?_, by simp only []; omega, by simp only []; omega, fun x hx => hs.2 x hx⟩⟩, ?_⟩
   ·obtain ⟨y, hy, rfl⟩ := List.mem_map.1 hx
    obtain ⟨h1, h2, h3, h4, h5, h6, h7⟩ := hi.2 y hy
    exact ⟨h1, h2, h3, h5, h7⟩
   ·show Value.agg cs = Value.agg _
    congr 1
    rw [← Array.toList_inj, hls]
end Go.Proofs.YtkdhdibjbabgfaaGreatDoor
end
