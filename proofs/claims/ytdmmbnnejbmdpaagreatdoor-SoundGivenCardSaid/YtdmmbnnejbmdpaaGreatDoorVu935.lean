/-
  Part of the proof of SoundTells,SoundGiven.
-/
import Derived.Test.YtdmmbnnejbmdpaaGreatDoorVu934
import Derived.Maps.Ext
import Derived.Maps.OwnSet
import Derived.Maps.RangeWalk
import Derived.Test.YtdmmbnnejbmdpaaGreatDoorVu90
set_option maxRecDepth 10000
set_option maxHeartbeats 1000000
set_option linter.unusedVariables false
set_option linter.unusedSimpArgs false
section
namespace Go.Proofs.YtdmmbnnejbmdpaaGreatDoor
open Go.Lib Go.RowKit Go.ChangeShapes Go.WideShapes Go.Deep Go.Shelf
def TellsCk (cb : Array Value) (P : Nat → Bool) (l : List (Nat)) (w : World) : Prop := ∀ w1 x, Below w.heap.size w w1 → x ∈ l → Calls Tryz.prog 76 (#[.agg #[.int .i64 (kN x : Nat), .int .i64 (cN x : Nat), .int .i64 (lnN x : Nat), .int .i64 (mN x : Nat), .int .u64 (bN x : Nat)]] ++ cb) w1 fun e w' => e = .returned (.bool (P x)) ∧ Below w1.heap.size w1 w'
theorem indexCk (cb : Array Value) (P : Nat → Bool) (v : Value) (l : List (Nat)) (w : World) (hv : EL 5 eC w v l) (hl : l.length ≤ 100000) (HC : TellsCk cb P l w) :
 Calls Tryz.prog 105 #[v, .func (.func 76) #[] cb] w fun e w' => ∃ r : Int, e = .returned (.int .i64 r) ∧ l.any P = decide (0 ≤ r) ∧ Below w.heap.size w w' := by
 obtain ⟨n, hn⟩ : ∃ n, l.length = n := ⟨_, rfl⟩
 obtain ⟨A, cap, rfl, hF⟩ := EL.form hv hn
 have hT := lh (fun w1 k (hb : Below w.heap.size w w1) (hk : k < n) => HC w1 (l.getD k default) hb (by rw [List.getD_eq_getElem?_getD, List.getElem?_eq_getElem (by omega)]; exact List.getElem_mem _))
 have hY := lh (fun k (hk : k < n) (h : P (l.getD k default) = true) => show l.any P = true from List.any_eq_true.2 ⟨l.getD k default, by rw [List.getD_eq_getElem?_getD, List.getElem?_eq_getElem (by omega)]; exact List.getElem_mem _, h⟩)
 have hS := lh (fun k (hk : k < n) (h : (l.take k).any P = false) (h2 : P (l.getD k default) = false) => show (l.take (k + 1)).any P = false from by
  rw [List.take_succ_eq_append_getElem (by omega), List.any_append, h, Bool.false_or, List.any_cons, List.any_nil, Bool.or_false]
  rw [List.getD_eq_getElem?_getD, List.getElem?_eq_getElem (by omega)] at h2
  exact h2)
 have hA := lh (show l.take n = l from List.take_of_length_le (by omega))
 replace hF := lh hF
 have hn9 : n ≤ 100000 := by omega
 replace hn := lh hn
 clear hv HC hl
 go_enter Tryz.func105, Tryz.ntmps105
 go_wp2_with fail
 go_loopw [8] (fun i wr => ∃ (j : Nat), j ≤ n ∧ i = .int .i64 (j : Nat) ∧ Hid ((l.take j).any P = false) ∧ Below w.heap.size w wr) (fun i _ => n + 1 - (intOf i).toNat)
 case atStart => exact ⟨0, Nat.zero_le _, rfl, lh (by simp), Below.refl _ _⟩
 case round =>
  obtain ⟨j, hj, rfl, hno, hBr⟩ := hrel
  by_cases hlt : j < n
  ·have hlt' : (j : Int) < (n : Int) := by omega
   obtain ⟨g, o, rfl, hc5, hg5, hg6, hc⟩ := hF.out wr j hBr hlt
   have hT1 := hT.out wr j hBr hlt
   have hY1 := hY.out j hlt
   have hS1 := hS.out j hlt hno.out
   generalize l.getD j default = x at *
   have k0 := hc 0 (by omega)
   have k1 := hc 1 (by omega)
   have k2 := hc 2 (by omega)
   have k3 := hc 3 (by omega)
   have k4 := hc 4 (by omega)
   clear hc hno
   simp only [eC, List.getElem?_cons_zero, List.getElem?_cons_succ, Nat.add_zero] at k0 k1 k2 k3 k4
   cases hP : P x with
   | true =>
     have hy := lh (hY1 hP)
     rw [hP] at hT1
     clear hY1 hS1
     go_wp2_with (go_at_call 76; (with_reducible refine hT1.mono ?_); rintro e w2 ⟨rfl, hb2⟩)
     have hB2 := hBr.trans (hb2.mono hBr.size)
     go_ret
     exact ⟨_, rfl, by rw [hy.out]; exact (decide_eq_true (by omega)).symm, hB2⟩
   | false =>
     have hs := lh (hS1 hP)
     rw [hP] at hT1
     clear hY1 hS1
     go_wp2_with (go_at_call 76; (with_reducible refine hT1.mono ?_); rintro e w2 ⟨rfl, hb2⟩)
     have hB2 := hBr.trans (hb2.mono hBr.size)
     go_roundw
     case rel => exact ⟨j + 1, by omega, by go_num, hs, hB2⟩
     case measure => first | (simp [intOf]; done) | (simp [intOf]; omega)
  ·obtain rfl : n = j := by omega
   have hlt' : ¬ (n : Int) < (n : Int) := by omega
   have hno2 := lh (show l.any P = false from by have h := hno.out; rw [hA.out] at h; exact h)
   go_wp2_with fail
   go_ret
   exact ⟨-1, rfl, by rw [hno2.out]; rfl, hBr⟩
theorem containsCk (cb : Array Value) (P : Nat → Bool) (v : Value) (l : List (Nat)) (w : World) (hv : EL 5 eC w v l) (hl : l.length ≤ 100000) (HC : TellsCk cb P l w) :
 Calls Tryz.prog 75 #[v, .func (.func 76) #[] cb] w fun e w' => e = .returned (.bool (l.any P)) ∧ Below w.heap.size w w' := by
 have hI := indexCk cb P v l w hv hl HC
 clear HC hv
 go_enter Tryz.func75, Tryz.ntmps75
 go_wp2_with fail
 refine hI.mono ?_
 rintro e w1 ⟨r, rfl, hr, hb⟩
 replace hr := lh hr
 go_wp2_with fail
 go_ret
 exact ⟨by rw [hr.out]; rfl, hb⟩
def TellsOe (cb : Array Value) (P : Ob → Bool) (l : List (Ob)) (w : World) : Prop := ∀ w1 x, Below w.heap.size w w1 → x ∈ l → Calls Tryz.prog 77 (#[.agg #[.int .i64 (x.1 : Nat), .int .i64 (x.2.1 : Nat), .int .i64 (x.2.2.1 : Nat), .int .u64 (x.2.2.2 : Nat)]] ++ cb) w1 fun e w' => e = .returned (.bool (P x)) ∧ Below w1.heap.size w1 w'
theorem indexOe (cb : Array Value) (P : Ob → Bool) (v : Value) (l : List (Ob)) (w : World) (hv : EL 4 eO w v l) (hl : l.length ≤ 100000) (HC : TellsOe cb P l w) :
 Calls Tryz.prog 106 #[v, .func (.func 77) #[] cb] w fun e w' => ∃ r : Int, e = .returned (.int .i64 r) ∧ l.any P = decide (0 ≤ r) ∧ Below w.heap.size w w' := by
 obtain ⟨n, hn⟩ : ∃ n, l.length = n := ⟨_, rfl⟩
 obtain ⟨A, cap, rfl, hF⟩ := EL.form hv hn
 have hT := lh (fun w1 k (hb : Below w.heap.size w w1) (hk : k < n) => HC w1 (l.getD k default) hb (by rw [List.getD_eq_getElem?_getD, List.getElem?_eq_getElem (by omega)]; exact List.getElem_mem _))
 have hY := lh (fun k (hk : k < n) (h : P (l.getD k default) = true) => show l.any P = true from List.any_eq_true.2 ⟨l.getD k default, by rw [List.getD_eq_getElem?_getD, List.getElem?_eq_getElem (by omega)]; exact List.getElem_mem _, h⟩)
 have hS := lh (fun k (hk : k < n) (h : (l.take k).any P = false) (h2 : P (l.getD k default) = false) => show (l.take (k + 1)).any P = false from by
  rw [List.take_succ_eq_append_getElem (by omega), List.any_append, h, Bool.false_or, List.any_cons, List.any_nil, Bool.or_false]
  rw [List.getD_eq_getElem?_getD, List.getElem?_eq_getElem (by omega)] at h2
  exact h2)
 have hA := lh (show l.take n = l from List.take_of_length_le (by omega))
 replace hF := lh hF
 have hn9 : n ≤ 100000 := by omega
 replace hn := lh hn
 clear hv HC hl
 go_enter Tryz.func106, Tryz.ntmps106
 go_wp2_with fail
 go_loopw [8] (fun i wr => ∃ (j : Nat), j ≤ n ∧ i = .int .i64 (j : Nat) ∧ Hid ((l.take j).any P = false) ∧ Below w.heap.size w wr) (fun i _ => n + 1 - (intOf i).toNat)
 case atStart => exact ⟨0, Nat.zero_le _, rfl, lh (by simp), Below.refl _ _⟩
 case round =>
  obtain ⟨j, hj, rfl, hno, hBr⟩ := hrel
  by_cases hlt : j < n
  ·have hlt' : (j : Int) < (n : Int) := by omega
   obtain ⟨g, o, rfl, hc5, hg5, hg6, hc⟩ := hF.out wr j hBr hlt
   have hT1 := hT.out wr j hBr hlt
   have hY1 := hY.out j hlt
   have hS1 := hS.out j hlt hno.out
   generalize l.getD j default = x at *
   have k0 := hc 0 (by omega)
   have k1 := hc 1 (by omega)
   have k2 := hc 2 (by omega)
   have k3 := hc 3 (by omega)
   clear hc hno
   simp only [eO, List.getElem?_cons_zero, List.getElem?_cons_succ, Nat.add_zero] at k0 k1 k2 k3
   cases hP : P x with
   | true =>
     have hy := lh (hY1 hP)
     rw [hP] at hT1
     clear hY1 hS1
     go_wp2_with (go_at_call 77; (with_reducible refine hT1.mono ?_); rintro e w2 ⟨rfl, hb2⟩)
     have hB2 := hBr.trans (hb2.mono hBr.size)
     go_ret
     exact ⟨_, rfl, by rw [hy.out]; exact (decide_eq_true (by omega)).symm, hB2⟩
   | false =>
     have hs := lh (hS1 hP)
     rw [hP] at hT1
     clear hY1 hS1
     go_wp2_with (go_at_call 77; (with_reducible refine hT1.mono ?_); rintro e w2 ⟨rfl, hb2⟩)
     have hB2 := hBr.trans (hb2.mono hBr.size)
     go_roundw
     case rel => exact ⟨j + 1, by omega, by go_num, hs, hB2⟩
     case measure => first | (simp [intOf]; done) | (simp [intOf]; omega)
  ·obtain rfl : n = j := by omega
   have hlt' : ¬ (n : Int) < (n : Int) := by omega
   have hno2 := lh (show l.any P = false from by have h := hno.out; rw [hA.out] at h; exact h)
   go_wp2_with fail
   go_ret
   exact ⟨-1, rfl, by rw [hno2.out]; rfl, hBr⟩
theorem containsOe (cb : Array Value) (P : Ob → Bool) (v : Value) (l : List (Ob)) (w : World) (hv : EL 4 eO w v l) (hl : l.length ≤ 100000) (HC : TellsOe cb P l w) :
 Calls Tryz.prog 78 #[v, .func (.func 77) #[] cb] w fun e w' => e = .returned (.bool (l.any P)) ∧ Below w.heap.size w w' := by
 have hI := indexOe cb P v l w hv hl HC
 clear HC hv
 go_enter Tryz.func78, Tryz.ntmps78
 go_wp2_with fail
 refine hI.mono ?_
 rintro e w1 ⟨r, rfl, hr, hb⟩
 replace hr := lh hr
 go_wp2_with fail
 go_ret
 exact ⟨by rw [hr.out]; rfl, hb⟩
def TellsOr (cb : Array Value) (P : Ob → Bool) (l : List (Ob)) (w : World) : Prop := ∀ w1 x, Below w.heap.size w w1 → x ∈ l → Calls Tryz.prog 79 (#[.agg #[.int .i64 (x.1 : Nat), .int .i64 (x.2.1 : Nat), .int .i64 (x.2.2.1 : Nat), .int .u64 (x.2.2.2 : Nat)]] ++ cb) w1 fun e w' => e = .returned (.bool (P x)) ∧ Below w1.heap.size w1 w'
theorem indexOr (cb : Array Value) (P : Ob → Bool) (v : Value) (l : List (Ob)) (w : World) (hv : EL 4 eO w v l) (hl : l.length ≤ 100000) (HC : TellsOr cb P l w) :
 Calls Tryz.prog 106 #[v, .func (.func 79) #[] cb] w fun e w' => ∃ r : Int, e = .returned (.int .i64 r) ∧ l.any P = decide (0 ≤ r) ∧ Below w.heap.size w w' := by
 obtain ⟨n, hn⟩ : ∃ n, l.length = n := ⟨_, rfl⟩
 obtain ⟨A, cap, rfl, hF⟩ := EL.form hv hn
 have hT := lh (fun w1 k (hb : Below w.heap.size w w1) (hk : k < n) => HC w1 (l.getD k default) hb (by rw [List.getD_eq_getElem?_getD, List.getElem?_eq_getElem (by omega)]; exact List.getElem_mem _))
 have hY := lh (fun k (hk : k < n) (h : P (l.getD k default) = true) => show l.any P = true from List.any_eq_true.2 ⟨l.getD k default, by rw [List.getD_eq_getElem?_getD, List.getElem?_eq_getElem (by omega)]; exact List.getElem_mem _, h⟩)
 have hS := lh (fun k (hk : k < n) (h : (l.take k).any P = false) (h2 : P (l.getD k default) = false) => show (l.take (k + 1)).any P = false from by
  rw [List.take_succ_eq_append_getElem (by omega), List.any_append, h, Bool.false_or, List.any_cons, List.any_nil, Bool.or_false]
  rw [List.getD_eq_getElem?_getD, List.getElem?_eq_getElem (by omega)] at h2
  exact h2)
 have hA := lh (show l.take n = l from List.take_of_length_le (by omega))
 replace hF := lh hF
 have hn9 : n ≤ 100000 := by omega
 replace hn := lh hn
 clear hv HC hl
 go_enter Tryz.func106, Tryz.ntmps106
 go_wp2_with fail
 go_loopw [8] (fun i wr => ∃ (j : Nat), j ≤ n ∧ i = .int .i64 (j : Nat) ∧ Hid ((l.take j).any P = false) ∧ Below w.heap.size w wr) (fun i _ => n + 1 - (intOf i).toNat)
 case atStart => exact ⟨0, Nat.zero_le _, rfl, lh (by simp), Below.refl _ _⟩
 case round =>
  obtain ⟨j, hj, rfl, hno, hBr⟩ := hrel
  by_cases hlt : j < n
  ·have hlt' : (j : Int) < (n : Int) := by omega
   obtain ⟨g, o, rfl, hc5, hg5, hg6, hc⟩ := hF.out wr j hBr hlt
   have hT1 := hT.out wr j hBr hlt
   have hY1 := hY.out j hlt
   have hS1 := hS.out j hlt hno.out
   generalize l.getD j default = x at *
   have k0 := hc 0 (by omega)
   have k1 := hc 1 (by omega)
   have k2 := hc 2 (by omega)
   have k3 := hc 3 (by omega)
   clear hc hno
   simp only [eO, List.getElem?_cons_zero, List.getElem?_cons_succ, Nat.add_zero] at k0 k1 k2 k3
   cases hP : P x with
   | true =>
     have hy := lh (hY1 hP)
     rw [hP] at hT1
     clear hY1 hS1
     go_wp2_with (go_at_call 79; (with_reducible refine hT1.mono ?_); rintro e w2 ⟨rfl, hb2⟩)
     have hB2 := hBr.trans (hb2.mono hBr.size)
     go_ret
     exact ⟨_, rfl, by rw [hy.out]; exact (decide_eq_true (by omega)).symm, hB2⟩
   | false =>
     have hs := lh (hS1 hP)
     rw [hP] at hT1
     clear hY1 hS1
     go_wp2_with (go_at_call 79; (with_reducible refine hT1.mono ?_); rintro e w2 ⟨rfl, hb2⟩)
     have hB2 := hBr.trans (hb2.mono hBr.size)
     go_roundw
     case rel => exact ⟨j + 1, by omega, by go_num, hs, hB2⟩
     case measure => first | (simp [intOf]; done) | (simp [intOf]; omega)
  ·obtain rfl : n = j := by omega
   have hlt' : ¬ (n : Int) < (n : Int) := by omega
   have hno2 := lh (show l.any P = false from by have h := hno.out; rw [hA.out] at h; exact h)
   go_wp2_with fail
   go_ret
   exact ⟨-1, rfl, by rw [hno2.out]; rfl, hBr⟩
theorem containsOr (cb : Array Value) (P : Ob → Bool) (v : Value) (l : List (Ob)) (w : World) (hv : EL 4 eO w v l) (hl : l.length ≤ 100000) (HC : TellsOr cb P l w) :
 Calls Tryz.prog 78 #[v, .func (.func 79) #[] cb] w fun e w' => e = .returned (.bool (l.any P)) ∧ Below w.heap.size w w' := by
 have hI := indexOr cb P v l w hv hl HC
 clear HC hv
 go_enter Tryz.func78, Tryz.ntmps78
 go_wp2_with fail
 refine hI.mono ?_
 rintro e w1 ⟨r, rfl, hr, hb⟩
 replace hr := lh hr
 go_wp2_with fail
 go_ret
 exact ⟨by rw [hr.out]; rfl, hb⟩
end Go.Proofs.YtdmmbnnejbmdpaaGreatDoor
end
section
namespace Go.Proofs.YtdmmbnnejbmdpaaGreatDoor
open Go.RowKit Go.ChangeShapes Go.WideShapes Go.Deep Go.Maps Go.MapKept Go.ChangeMaps
def iR (v : Value) : Option (DataW Unit × List MemPlace) :=
 match v with
 | .int .i64 a => some (.lit (.int .i64 a), [])
 | _ => none
theorem iR_mk (x : Int) : iR (.int .i64 x) = some (.lit (.int .i64 x), []) := rfl
theorem iR_inv {v : Value} {z : DataW Unit × List MemPlace} (h : iR v = some z) : ∃ a, v = .int .i64 a ∧ z = (.lit (.int .i64 a), []) := by
 unfold iR at h
 split at h
 ·cases h
  exact ⟨_, rfl, rfl⟩
 ·cases h
theorem izero (w : World) : (zeroValue 3).run Tryz.prog w = .ok (.int .i64 0) w := by kernel_rfl
theorem ulaw : Keyed Tryz.prog 33 := int_keyed Tryz.underlying33
def U64 (x : Int) : Prop := 0 ≤ x ∧ x ≤ 18446744073709551615
theorem U64.wf {x : Int} (h : U64 x) : (Lit.int .u64 x).wf = true := by
 obtain ⟨h1, h2⟩ := h
 exact WalkArith.wf_u64 (by omega)
theorem kuint (x : Int) : WideAt.IsKeyLit (.int .u64 x) := trivial
theorem ulit_ne {x k : Int} (h : x ≠ k) : (Lit.int .u64 x) ≠ Lit.int .u64 k := fun e => h (by injection e)
abbrev Gk := Int → Option Int
structure PicK (D : DataW Unit) (g : Gk) : Prop where
 has : ∀ x, U64 x → Maps.has D (.int .u64 x) = (g x).isSome
 got : ∀ x c, g x = some c → U64 x ∧ ∀ z, D.atKey (.int .u64 x) z = .lit (.int .i64 c)
def putK9 (g : Gk) (k : Int) (f : Int) : Gk := fun x => if x = k then some f else g x
theorem PicK.nil : PicK (.map []) (fun _ => none) := ⟨fun x _ => rfl, fun x c h => by cases h⟩
theorem PicK.put {D : DataW Unit} {g : Gk} {k : Int} {f : Int} (h : PicK D g) (hm : IsMap D) (hk : U64 k) : PicK (D.put (.int .u64 k) (.lit (.int .i64 f))) (putK9 g k f) := by
 refine ⟨fun x hx => ?_, fun x c hc => ?_⟩
 ·unfold putK9
  by_cases e : x = k
  ·subst e; rw [if_pos rfl, has_put_same hm (kuint _)]; rfl
  ·rw [if_neg e, has_put_other (ulit_ne e), h.has x hx]
 ·unfold putK9 at hc
  by_cases e : x = k
  ·subst e
   rw [if_pos rfl] at hc
   cases hc
   exact ⟨hk, fun z => atKey_put_same hm (kuint _) _ _⟩
  ·rw [if_neg e] at hc
   obtain ⟨a, d⟩ := h.got x c hc
   exact ⟨a, fun z => by rw [atKey_put_other (ulit_ne e), d z]⟩
def MapK (w : World) (M n : Nat) (g : Gk) : Prop := ∃ D, w.ownsMap Tryz.prog 33 iR M n D ∧ PicK D g
theorem MapK.lt {w : World} {M n : Nat} {g : Gk} (h : MapK w M n g) : M < w.heap.size := by
 obtain ⟨D, ho, _⟩ := h
 exact ho.lt
theorem MapK.grown {w w' : World} {M n : Nat} {g : Gk} {row : Option Nat} (h : MapK w M n g) (hg : w.grownBy w' row) (hM : some M ≠ row) : MapK w' M n g := by
 obtain ⟨D, ho, hp⟩ := h
 exact ⟨D, ho.kept hg hM, hp⟩
theorem MapK.keep {w w' : World} {M n : Nat} {g : Gk} (h : MapK w M n g) (hb : Below w.heap.size w w') : MapK w' M n g :=
 h.grown (row := none) ⟨hb.os, hb.tape, hb.output, hb.size, fun k hk _ => hb.block k hk⟩ (by simp)
theorem MapK.new (w : World) : MapK (w.alloc (.map #[] 0)) w.heap.size 0 (fun _ => none) := ⟨_, World.ownsMap_made (H := Unit) w Tryz.prog 33 iR, PicK.nil⟩
theorem MapK.look {w : World} {M n : Nat} {g : Gk} (h : MapK w M n g) {key : Int} (hk : U64 key) :
 (Instr.lookup 130 (.map (some M)) (.int .u64 key) true).run Tryz.prog w = .ok (.tuple #[.int .i64 ((g key).getD 0), .bool (g key).isSome]) w := by
 obtain ⟨D, ho, hp⟩ := h
 obtain ⟨v, ps, hrun, hv⟩ := ho.look_ok ulaw Tryz.underlying130 (izero w) (iR_mk 0) (keyOf_int_mk Tryz.underlying33 hk.wf)
 obtain ⟨f, rfl, hz⟩ := iR_inv hv
 have h3 := congrArg Prod.fst hz
 simp only [] at h3
 rw [hrun, hp.has key hk]
 cases hg : g key with
 | none =>
   have hn : Maps.has D (.int .u64 key) = false := by rw [hp.has key hk, hg]; rfl
   rw [atKey_of_not_has hn] at h3
   simp only [DataW.lit.injEq, Lit.int.injEq, true_and] at h3
   rw [← h3]; rfl
 | some c =>
   rw [(hp.got key c hg).2] at h3
   simp only [DataW.lit.injEq, Lit.int.injEq, true_and] at h3
   rw [← h3]; rfl
theorem MapK.put {w : World} {M n : Nat} {g : Gk} (h : MapK w M n g) {key : Int} {f : Int} (hk : U64 key) (hn : n < maxLen) :
 ∃ w', (Instr.mapUpdate 130 (.map (some M)) (.int .u64 key) (.int .i64 f)).run Tryz.prog w = .ok () w' ∧ MapK w' M (n + 1) (putK9 g key f) ∧ w.grownBy w' (some M) := by
 obtain ⟨D, ho, hp⟩ := h
 obtain ⟨w', hrun, ho', ht⟩ := ho.store ulaw Tryz.underlying130 hn (keyOf_int_mk Tryz.underlying33 hk.wf) (iR_mk f)
 exact ⟨w', hrun, ⟨_, ho', hp.put ho.isMap hk⟩, ht.grown⟩
theorem OwnE_row_ne {α : Type} {e : TypeId} {sz : Nat} {en : α → List Value} {w : World} {base M n : Nat} {v : Value} {l : List α} {g : Gk} (h : OwnE e sz en w base v l) (hb : MapK w M n g) : ∀ k, v.ownBlock = some k → k ≠ M := by
 rintro k hk rfl
 obtain ⟨D, ⟨es, c, hbb, Ft⟩, hp⟩ := hb
 rcases h.2 with ⟨rfl, _⟩ | ⟨g, cap, cur, rfl, _, hg, _⟩
 ·cases hk
 ·cases hk
  rw [hbb] at hg
  cases hg
end Go.Proofs.YtdmmbnnejbmdpaaGreatDoor
end
