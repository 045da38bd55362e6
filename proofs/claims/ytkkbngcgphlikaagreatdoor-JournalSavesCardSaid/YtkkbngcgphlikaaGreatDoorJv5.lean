/-
  Part of the proof of JournalSaves.
-/
import Derived.Test.YtkkbngcgphlikaaGreatDoorJv1
import Derived.Test.YtkkbngcgphlikaaGreatDoorJv2
import Derived.Test.YtkkbngcgphlikaaGreatDoorJv20
import Derived.Test.YtkkbngcgphlikaaGreatDoorJv3
import Derived.Test.YtkkbngcgphlikaaGreatDoorJv4
import Derived.Test.YtkkbngcgphlikaaGreatDoorRows
import Derived.Maps.Ext
import Derived.Maps.OwnSet
import Derived.Maps.RangeWalk
import Derived.ArgAppend
import Derived.Lib.AppendZerosOnto
import Derived.BigRegion
import Derived.Lib.Hide
import Derived.Test.YtkkbngcgphlikaaGreatDoorJv0
set_option maxRecDepth 10000
set_option maxHeartbeats 2000000
set_option linter.unusedVariables false
set_option linter.unusedSimpArgs false
section
namespace Go.Proofs.YtkkbngcgphlikaaGreatDoor
open Go.RowKit Go.ChangeShapes Go.WideShapes Go.Deep Go.Maps
abbrev Fx := (Int × Int × Int × Int × Bool) × Int × Int × Int × Int
theorem tlaw : Keyed Tryz.prog 3 := int_keyed Tryz.underlying3
def I64 (x : Int) : Prop := -9223372036854775808 ≤ x ∧ x ≤ 9223372036854775807
theorem I64.wf {x : Int} (h : I64 x) : (Lit.int .i64 x).wf = true := by
 obtain ⟨h1, h2⟩ := h
 exact WalkArith.wf_i64 (by omega)
theorem wf_I64 {x : Int} (h : (Lit.int .i64 x).wf = true) : I64 x := bounds_i64 h
theorem kint (x : Int) : WideAt.IsKeyLit (.int .i64 x) := trivial
theorem lit_ne {x k : Int} (h : x ≠ k) : (Lit.int .i64 x) ≠ Lit.int .i64 k := fun e => h (by injection e)
abbrev Gf := Int → Option Fx
end Go.Proofs.YtkkbngcgphlikaaGreatDoor
end
section
namespace Go.Proofs.YtkkbngcgphlikaaGreatDoor
open Go.RowKit
theorem own_ge {w : World} {base e n : Nat} {v : Value} {xs : List Value} (h : w.ownsRow base e 1 v n xs) : ∀ k, v.ownBlock = some k → base ≤ k := by
 intro k hk
 rcases h.2 with ⟨hv, _⟩ | ⟨g, cap, cur, hv, hb, hg, _⟩
 ·subst hv; simp [Value.ownBlock] at hk
 ·subst hv; simp [Value.ownBlock] at hk; omega
theorem wv_succ (l : List Nat) (x : Nat) : wv (l ++ [x]) = wv l ++ [.int .u64 (x : Int)] := by simp [wv]
theorem SL.of_owns {w : World} {base e : Nat} {v : Value} {l : List Nat} (h : w.ownsRow base e 1 v l.length (wv l)) : SL w v l := by
 have h' := h
 rcases h.2 with ⟨hv, hn⟩ | ⟨g, cap, cur, hv, hb, hg, h1, h2, h3, h4⟩
 ·exact .inl ⟨List.length_eq_zero_iff.1 hn, none, 0, by rw [hv]⟩
 ·subst hv
  refine .inr ⟨g, 0, cap, rfl, (Array.getElem?_eq_some_iff.1 hg).1, h1, fun i hi => ?_⟩
  rw [Nat.zero_add, h'.cellAt i (by omega), wv_at l i hi]
end Go.Proofs.YtkkbngcgphlikaaGreatDoor
end
section
namespace Go.Proofs.YtkkbngcgphlikaaGreatDoor
open Go.RowKit
theorem append_sum {w5 : World} {base gx n cx gb m : Nat} {xs : List Nat} (hown : w5.ownsRow base 40 1 (.slice (some ⟨gx, 0, none⟩) n cx) n (wv xs)) (hn : xs.length = n) (hcell : w5.cell? ⟨gb, 0, none⟩ = some (.int .u64 (m : Nat))) (hbase : base ≤ w5.heap.size) (hsm : n ≤ 40) (hpos : 0 < n) :
 ∃ v3 w6, (Builtin.append_ #[25, 25] 25 #[.slice (some ⟨gx, 0, none⟩) n cx, .slice (some ⟨gb, 0, none⟩) 1 1]).run Tryz.prog w5 = .ok v3 w6 ∧ SL w6 v3 (xs ++ [m]) ∧ SL w6 (.slice (some ⟨gx, 0, none⟩) n cx) xs ∧ Below base w5 w6 := by
 obtain ⟨i0, hi, hz0, hz1, hz2⟩ := info_parts infoU64
 have hnews : ∀ j u, [Value.int .u64 (m : Int)][j]? = some u → w5.cell? ((⟨gb, 0, none⟩ : Addr).add j) = some u := fun j u hj => by
  have h0 : j = 0 := by
   have := (List.getElem?_eq_some_iff.1 hj).1
   simp at this
   omega
  subst h0
  simp only [List.getElem?_cons_zero] at hj
  rw [← hj]
  simpa [Addr.add] using hcell
 have h1 : ∀ u ∈ [Value.int .u64 (m : Int)], u.oneCell' = true := fun u hu => by simp at hu; subst hu; rfl
 have hlx : (xs ++ [m]).length = n + 1 := by simp [hn]
 have hge := own_ge hown gx rfl
 by_cases hroom : n + 1 ≤ cx
 ·obtain ⟨w6, hrun, ho6, hg6⟩ := run_append_fits (P := Tryz.prog) w5 base 25 25 40 i0 1 Tryz.underlying25 hi hz1 gx n cx (wv xs) hown ⟨gb, 0, none⟩ 1 1 [.int .u64 (m : Int)] rfl hnews h1 hroom
  rw [← wv_succ, ← hlx] at ho6
  have hS := SL.of_owns ho6
  refine ⟨_, w6, hrun, by rw [← hlx]; exact hS, ?_, (Below.refl _ _).grown hg6 hbase (fun k hk => by simp at hk; omega)⟩
  obtain ⟨g3, o3, c3, hv3, hg3, hc3, hcells⟩ := hS.pos hlx
  rw [hlx] at hv3
  simp only [Value.slice.injEq, Option.some.injEq, Addr.mk.injEq, and_true, true_and] at hv3
  obtain ⟨⟨rfl, rfl⟩, rfl⟩ := hv3
  refine .inr ⟨gx, 0, cx, by rw [hn], hg3, by omega, fun i hi => ?_⟩
  have := hcells i (by omega)
  rw [this, List.getD_eq_getElem?_getD, List.getD_eq_getElem?_getD, List.getElem?_append_left hi]
 ·have hold := hown.cells (g := gx) rfl
  obtain ⟨v3, w6, hrun, ho6, hg6⟩ := run_append_arg_grows (P := Tryz.prog) w5 25 25 40 i0 (.int .u64 0) 1 8 Tryz.underlying25 hi hz0 hz1 hz2 rfl (by decide) ⟨gx, 0, none⟩ n cx (wv xs) (by rw [wv_len]; omega) hold ⟨gb, 0, none⟩ 1 1 [.int .u64 (m : Int)] rfl hnews (by omega) (by unfold maxLen; omega) (by omega)
  rw [← wv_succ, ← hlx] at ho6
  have hB6 : Below w5.heap.size w5 w6 := (Below.refl _ _).grown hg6 (Nat.le_refl _) (by simp)
  have hX : SL w5 (.slice (some ⟨gx, 0, none⟩) xs.length cx) xs := SL.of_owns (by rw [hn]; exact hown)
  rw [hn] at hX
  exact ⟨v3, w6, hrun, SL.of_owns ho6, hX.keep hB6, hB6.mono hbase⟩
end Go.Proofs.YtkkbngcgphlikaaGreatDoor
end
section
namespace Go.Proofs.YtkkbngcgphlikaaGreatDoor
open Go.RowKit
def Rw (w : World) (g : Nat) (l : List Nat) : Prop := w.heap[g]? = some (.cells (wv l).toArray 40 (0, 0))
theorem Rw.keep {w w1 : World} {g B : Nat} {l : List Nat} (h : Rw w g l) (hb : Below B w w1) (hg : g < B) : Rw w1 g l := (hb.block g hg).trans h
theorem Rw.lt {w : World} {g : Nat} {l : List Nat} (h : Rw w g l) : g < w.heap.size := (Array.getElem?_eq_some_iff.1 h).1
theorem Rw.sl {w : World} {g : Nat} {l : List Nat} (h : Rw w g l) : SL w (.slice (some ⟨g, 0, none⟩) l.length l.length) l :=
 .inr ⟨g, 0, _, rfl, h.lt, Nat.le_refl _, fun i hi => by
  rw [(row_cell h _).1, Nat.zero_add, List.getElem?_toArray, wv_at l i hi]⟩
theorem Rw.own {w : World} {g : Nat} {l : List Nat} (h : Rw w g l) (hl : l.length ≤ 100000) : w.ownsRow g 40 1 (.slice (some ⟨g, 0, none⟩) l.length l.length) l.length (wv l) :=
 ⟨by rw [wv_len, Nat.mul_one], .inr ⟨g, _, _, rfl, Nat.le_refl _, h, Nat.le_refl _, by unfold maxLen; omega, by simp [wv_len], by simp [wv_len, List.take_of_length_le]⟩⟩
theorem wv_append (a b : List Nat) : wv (a ++ b) = wv a ++ wv b := by simp [wv]
theorem seal_own (v : Value) (l : List Nat) (w : World) (hl : WL l) (hlen : l.length ≤ 900) (hv : SL w v l) :
 Calls Tryz.prog 112 #[v] w fun e w' => e = .returned (.slice (some ⟨w.heap.size, 0, none⟩) (l.length + 1) (l.length + 1)) ∧ Rw w' w.heap.size (l ++ [moreN 0 l]) ∧ Below w.heap.size w w' := by
 obtain ⟨i0, hi, hz0, hz1, hz2⟩ := info_parts infoU64
 have hvv := hv
 have hv1 : ∃ sp cap, v = .slice sp l.length cap := by
  rcases hv with ⟨rfl, sp, cap, rfl⟩ | ⟨g, off, cap, rfl, _⟩
  ·exact ⟨_, _, rfl⟩
  ·exact ⟨_, _, rfl⟩
 obtain ⟨sp, cap, rfl⟩ := hv1
 have hn1 := lh (show ((l.length : Int) + 1) = ((l.length + 1 : Nat) : Int) by omega)
 go_enter Tryz.func112, Tryz.ntmps112
 go_wp2_with (at_make; refine wpList_make_full _ rfl _ _ 25 rfl w.heap.size 40 i0 (.int .u64 0) 1 Tryz.underlying25 hi hz0 hz1 .i64 .i64 _ _ (l.length + 1) rfl rfl hn1.out hn1.out (by rw [hz2]; omega) (by unfold maxLen; omega) (Nat.le_refl _) ?_; intro w1 hown hgr)
 have hrow := row_of_owns hown rfl
 rw [show (madeCells (Value.int IntKind.u64 0).cells ((l.length + 1) * 1)).toList = List.replicate (l.length + 1) (Value.int .u64 0) by
  rw [Nat.mul_one]; exact toList_madeCells_one _ _] at hrow
 have hB1 : Below w.heap.size w w1 := (Below.refl _ _).grown hgr (Nat.le_refl _) (by simp)
 obtain ⟨w2, hrun, hrow2, hb2⟩ := copyW l hrow (hvv.keep hB1)
 rw [show Nat.min l.length (l.length + 1) = l.length from Nat.min_eq_left (by omega), List.take_of_length_le (Nat.le_refl _), show l.length + 1 - l.length = 1 by omega] at hrow2
 rw [hrun]
 have hB2 : Below w.heap.size w w2 := hB1.trans hb2
 have hg2 : w.heap.size < w2.heap.size := (Array.getElem?_eq_some_iff.1 hrow2).1
 have hO := lh (of_any _ l w2 hl (by omega) (hvv.keep hB2))
 have hS2 := lh (hvv.keep hB2)
 have hR := lh (row_cell hrow2)
 replace hrow2 := lh hrow2
 clear hrun hrow hown hgr hvv hb2 hB1
 go_wp2_with fail
 refine hO.out.mono ?_
 rintro e w3 ⟨rfl, hb3⟩
 have hB3 : Below w.heap.size w w3 := hB2.trans (hb3.mono hB2.size)
 have hc3 : w3.cell? ⟨w.heap.size, l.length, none⟩ = some (.int .u64 0) := by
  rw [(bcell hb3).1 _ _ hg2, (hR.out l.length).1]
  simp [wv]
 have hf3 : w3.frozen? ⟨w.heap.size, l.length, none⟩ = false := by rw [(bcell hb3).2 _ _ hg2]; exact (hR.out l.length).2
 have hrow3 := lh ((hb3.block w.heap.size hg2).trans hrow2.out)
 have hm := moreN_lt 0 l
 generalize hmm : moreN 0 l = m at *
 replace hmm := lh hmm
 go_wp2_with fail
 go_ret
 refine ⟨rfl, ?_, hB3.setCell (Nat.le_refl _) _⟩
 unfold Rw
 rw [heap_setCell_same w3 _ _ _ _ _ hrow3.out, wv_append]
 congr 3
 apply Array.ext'
 simp only [Array.toList_setIfInBounds, List.replicate_one]
 rw [show l.length = (wv l).length by rw [wv_len], hmm.out]
 simp [wv]
end Go.Proofs.YtkkbngcgphlikaaGreatDoor
end
section

namespace Go.Proofs.YtkkbngcgphlikaaGreatDoor
open Go.RowKit Go.ChangeShapes Go.WideShapes Go.Deep
def eI (x : Nat) : List Value := [.int .i64 (x : Nat)]
theorem eI_len (x : Nat) : (eI x).length = 1 := rfl
theorem infoI : (Tryz.prog.info? 3).map (fun i => (i.zero, i.size, i.bytes)) = some (some (.int .i64 0), 1, 8) := by kernel_rfl
theorem iT : ElT Tryz.prog 84 3 1 8 eI :=
 ⟨Tryz.underlying84, by obtain ⟨i0, h1, h2, h3, h4⟩ := info_parts infoI; exact ⟨i0, _, h1, h2, h3, h4, rfl⟩, eI_len, fun x u hu => by simp only [eI, List.mem_singleton] at hu; subst hu; rfl, by decide, by decide⟩
abbrev IKO (w : World) (base : Nat) (v : Value) (l : List Nat) : Prop := OwnE 3 1 eI w base v l
structure SD (w0 : World) (base g n cap : Nat) (d : List Nat) (w : World) : Prop where
 own : IKO w base (.slice (some ⟨g, 0, none⟩) n cap) d
 len : d.length = n
 kept : Below base w0 w
 low : base ≤ g
theorem SD.drew {w0 w : World} {base g n cap : Nat} {d : List Nat} (h : SD w0 base g n cap d w) : SD w0 base g n cap d w.drew := ⟨h.own.drew, h.len, h.kept.drew, h.low⟩
theorem SD.cell {w0 w : World} {base g n cap : Nat} {d : List Nat} (h : SD w0 base g n cap d w) (i : Nat) (hi : i < n) : w.cell? ⟨g, i, none⟩ = some (.int .i64 (d.getD i 0 : Nat)) ∧ w.frozen? ⟨g, i, none⟩ = false := by
 have := OwnE.cell (e := 3) (en := eI) eI_len h.own h.len hi (j := 0) (by decide)
 simpa [eI] using this
theorem SD.set {w0 w : World} {base g n cap : Nat} {d : List Nat} (h : SD w0 base g n cap d w) (i x : Nat) (hi : i < n) : SD w0 base g n cap (d.set i x) (w.setCell ⟨g, i, none⟩ (.int .i64 (x : Nat))) := by
 refine ⟨?_, by rw [List.length_set]; exact h.len, h.kept.setCell (by simpa using h.low) _, h.low⟩
 have := OwnE.set (e := 3) (en := eI) eI_len h.own h.len hi (j := 0) (by decide) (x' := x) (u := .int .i64 (x : Nat)) rfl
 simpa using this
theorem SD.swap {w0 w : World} {base g n cap : Nat} {d : List Nat} (h : SD w0 base g n cap d w) (i j x y : Nat) (hi : i < n) (hj : j < n) (hx : d.getD i 0 = x) (hy : d.getD j 0 = y) :
 SD w0 base g n cap (swL d i j) ((w.setCell ⟨g, i, none⟩ (.int .i64 (y : Nat))).setCell ⟨g, j, none⟩ (.int .i64 (x : Nat))).drew := by
 subst hx hy
 exact ((h.set i _ hi).set j _ hj).drew
theorem SD.other {w0 w : World} {base g n cap : Nat} {d : List Nat} (h : SD w0 base g n cap d w) (i j y : Nat) (hi : i < n) (hj : j < n) :
 ∃ u, (w.setCell ⟨g, i, none⟩ (.int .i64 (y : Nat))).cell? ⟨g, j, none⟩ = some u := ⟨_, ((h.set i y hi).cell j hj).1⟩
def CmpOk (cb : Array Value) (f : Nat → Int) (N base : Nat) (w0 : World) : Prop := ∀ w x y, Below base w0 w → x < N → y < N → Calls Tryz.prog 193 (#[.int .i64 (x : Nat), .int .i64 (y : Nat)] ++ cb) w fun e w' => e = .returned (.int .i64 (f x - f y)) ∧ w' = w.drew
theorem insertion_any (cb : Array Value) (f ke : Nat → Int) (N a b base g n cap : Nat) (d0 : List Nat) (w0 w : World) (HC : Hid (CmpOk cb f N base w0)) (K : Hid (Key N f ke)) (S0 : SD w0 base g n cap d0 w) (hab : a ≤ b) (hb : b ≤ n) (hn : n ≤ 100000)
 (hN : Hid (∀ x ∈ d0, x < N)) (hA : Hid (Srt nI d0 a b)) :
 Calls Tryz.prog 216 #[.slice (some ⟨g, 0, none⟩) n cap, .int .i64 a, .int .i64 b, .func (.func 193) #[] cb] w fun e w' => e = .returned (.tuple #[]) ∧ ∃ d1, SD w0 base g n cap d1 w' ∧ Mv a b d0 d1 ∧ Srt ke d1 a b := by
 have hl0 := lh S0.len
 replace S0 := lh S0
 go_enter Tryz.func216, Tryz.ntmps216
 go_wp2_with fail
 go_loopw [8] (fun i wr => ∃ (k : Nat) (d : List Nat), a < k ∧ k ≤ b + 1 ∧ i = .int .i64 k ∧ Hid (SD w0 base g n cap d wr) ∧ Hid (Mv a (min k b) d0 d) ∧ Hid (Srt ke d a (min k b))) (fun i _ => b + 1 - (intOf i).toNat)
 case atStart => exact ⟨a + 1, d0, by omega, by omega, by go_num, S0, Mv.refl _ _ _, Srt.short (by omega)⟩
 case round =>
  obtain ⟨i, di, hai, hib, rfl, SI, MI, RI⟩ := hrel
  by_cases hlt : i < b
  ·have hltz : (i : Int) < (b : Int) := by omega
   rw [Nat.min_eq_left (by omega)] at MI RI
   have hli := lh SI.out.len
   have hNi := lh (fun x (hx : x ∈ di) => hN.out x (MI.out.perm.mem_iff.1 hx))
   -- the one that is put in is greater, as a number, than what stands ahead of it
   have hBig := lh (fun q (h1 : a ≤ q) (h2 : q < i) => show di.getD q 0 < di.getD i 0 from by
    obtain ⟨q', a1, a2, a3⟩ := MI.out.inn q h1 h2
    rw [a3, MI.out.out i (by omega)]
    exact nI_lt (hA.out q' i a1 a2 hlt))
   obtain ⟨x, hxi⟩ : ∃ x, di.getD i 0 = x := ⟨_, rfl⟩
   have hxm := lh (hNi.out x (by rw [← hxi, List.getD_eq_getElem?_getD, List.getElem?_eq_getElem (by rw [hli.out]; omega)]; exact List.getElem_mem _))
   replace hxi := lh hxi
   go_wp2_with fail
   go_loopw [9] (fun u wr2 => ∃ (j : Nat) (d : List Nat), a ≤ j ∧ j ≤ i ∧ u = .int .i64 j ∧ Hid (SD w0 base g n cap d wr2) ∧ Hid (Ins di d a i j) ∧ Hid (∀ q, j ≤ q → q < i → ke (di.getD i 0) < ke (di.getD q 0))) (fun u _ => (intOf u).toNat)
   case atStart => exact ⟨i, di, by omega, Nat.le_refl _, rfl, SI, Ins.start di a i, fun q q1 q2 => by omega⟩
   case round =>
    obtain ⟨j, d, haj, hji, rfl, hSd', hI, hQ⟩ := hrel
    have hSd := hSd'.out
    by_cases hja : a < j
    ·have haj' : a ≤ j - 1 := by omega
     obtain ⟨jp, rfl⟩ : ∃ q, j = q + 1 := ⟨j - 1, by omega⟩
     simp only [Nat.add_sub_cancel] at haj'
     have hj1 : jp + 1 < n := by omega
     have hj0 : jp < n := by omega
     have hx : d.getD (jp + 1) 0 = x := by rw [hI.out.at_]; unfold insF; rw [if_pos rfl]; exact hxi.out
     obtain ⟨y, hy⟩ : ∃ y, d.getD jp 0 = y := ⟨_, rfl⟩
     have hyd : di.getD jp 0 = y := by rw [← hy, hI.out.at_]; unfold insF; rw [if_neg (by omega), if_neg (by omega)]
     have hyN : y < N := hNi.out y (by rw [← hyd, List.getD_eq_getElem?_getD, List.getElem?_eq_getElem (by rw [hli.out]; omega)]; exact List.getElem_mem _)
     have hxN := hxm.out
     have hyx : y < x := by rw [← hyd, ← hxi.out]; exact hBig.out jp (by omega) (by omega)
     have hlt1 := lh (K.out.lt x y hyx hxN)
     have hge1 := lh (K.out.ge x y hyx hxN)
     have hCf := HC
     obtain ⟨fx, hfx⟩ : ∃ z, f x = z := ⟨_, rfl⟩
     obtain ⟨fy, hfy⟩ : ∃ z, f y = z := ⟨_, rfl⟩
     have hja1 : ((jp : Int) + 1 > (a : Int)) := by omega
     have hja2 : decide ((jp : Int) + 1 > (a : Int)) = true := decide_eq_true (by omega)
     have ew1 : IntKind.i64.wrap ((jp : Int) + 1) = (jp : Int) + 1 := by rw [IntKind.wrap_i64]; omega
     have ew2 : IntKind.i64.wrap ((jp : Int) + 1 - 1) = (jp : Int) := by rw [IntKind.wrap_i64]; omega
     have ew3 : IntKind.i64.wrap (jp : Int) = (jp : Int) := by rw [IntKind.wrap_i64]; omega
     have b1 : (jp : Int) + 1 < (n : Int) := by omega
     have b2 : (jp : Int) < (n : Int) := by omega
     have b3 : (0 : Int) ≤ (jp : Int) + 1 := by omega
     have t1 : ((jp : Int) + 1).toNat = jp + 1 := by omega
     by_cases hf : fx < fy
     ·have hke := lh (hlt1.out (by rw [hfx, hfy]; exact hf))
      have g1 : fx - fy < 0 := by omega
      have g2 : decide (fx - fy < 0) = true := decide_eq_true g1
      have hqs := lh (Ins.below (j := jp) (by rw [hyd, hxi.out]; exact hke.out) hQ.out)
      have hIn := lh (hI.out.step haj' hji (by rw [hli.out]; omega))
      have hC0 := lh (fun (w : World) (h : SD w0 base g n cap d w) => show w.cell? ⟨g, jp + 1, none⟩ = some (.int .i64 (x : Nat)) ∧ w.frozen? ⟨g, jp + 1, none⟩ = false from by have c := h.cell (jp + 1) hj1; rw [hx] at c; exact c)
      have hC1 := lh (fun (w : World) (h : SD w0 base g n cap d w) => show w.cell? ⟨g, jp, none⟩ = some (.int .i64 (y : Nat)) ∧ w.frozen? ⟨g, jp, none⟩ = false from by have c := h.cell jp hj0; rw [hy] at c; exact c)
      replace hx := lh hx
      replace hy := lh hy
      replace hyd := lh hyd
      replace hfx := lh hfx
      replace hfy := lh hfy
      clear hlt1 hge1 hke hSd'
      go_wp2_with fail
      refine wp_region_held_drew (S := (fun w' => SD w0 base g n cap d w')) (by kernel_rfl) ?_ (fun hHeld => ?_)
      ·(try dsimp only)
       (first | exact hSd.drew | exact hHeld.drew)
      refine takeL 0 (v := ?_) rfl (by kernel_rfl) (by kernel_rfl) (by kernel_rfl) (fun _ _ _ h => h) (by rfl) (by assumption) ?_ ?_
      rotate_left
      ·(intro w hSw; (try dsimp only at hSw); (have p0 := (hSw.cell (jp + 1) hj1).1; have p1 := (hSw.cell jp hj0).1; rw [hx.out] at p0; rw [hy.out] at p1); go_simp <;> with_reducible rfl)
      try simp only [Act.put,sA,sB,sC]
      refine takeL 1 (v := ?_) rfl (by kernel_rfl) (by kernel_rfl) (by kernel_rfl) (fun _ _ _ h => h) (by rfl) (by assumption) ?_ ?_
      rotate_left
      ·(intro w hSw; (try dsimp only at hSw); (have p0 := (hSw.cell (jp + 1) hj1).1; have p1 := (hSw.cell jp hj0).1; rw [hx.out] at p0; rw [hy.out] at p1); go_simp <;> with_reducible rfl)
      try simp only [Act.put,sA,sB,sC]
      refine takeL 2 (v := ?_) rfl (by kernel_rfl) (by kernel_rfl) (by kernel_rfl) (fun _ _ _ h => h) (by rfl) (by assumption) ?_ ?_
      rotate_left
      ·(intro w hSw; (try dsimp only at hSw); (have p0 := (hSw.cell (jp + 1) hj1).1; have p1 := (hSw.cell jp hj0).1; rw [hx.out] at p0; rw [hy.out] at p1); go_simp <;> with_reducible rfl)
      try simp only [Act.put,sA,sB,sC]
      refine takeL 3 (v := ?_) rfl (by kernel_rfl) (by kernel_rfl) (by kernel_rfl) (fun _ _ _ h => h) (by rfl) (by assumption) ?_ ?_
      rotate_left
      ·(intro w hSw; (try dsimp only at hSw); (have p0 := (hSw.cell (jp + 1) hj1).1; have p1 := (hSw.cell jp hj0).1; rw [hx.out] at p0; rw [hy.out] at p1); go_simp <;> with_reducible rfl)
      try simp only [Act.put,sA,sB,sC]
      refine takeL 4 (v := ?_) rfl (by kernel_rfl) (by kernel_rfl) (by kernel_rfl) (fun _ _ _ h => h) (by rfl) (by assumption) ?_ ?_
      rotate_left
      ·(intro w hSw; (try dsimp only at hSw); (have p0 := (hSw.cell (jp + 1) hj1).1; have p1 := (hSw.cell jp hj0).1; rw [hx.out] at p0; rw [hy.out] at p1); go_simp <;> with_reducible rfl)
      try simp only [Act.put,sA,sB,sC]
      refine takeL 5 (v := ?_) rfl (by kernel_rfl) (by kernel_rfl) (by kernel_rfl) (fun _ _ _ h => h) (by rfl) (by assumption) ?_ ?_
      rotate_left
      ·(intro w hSw; (try dsimp only at hSw); (have p0 := (hSw.cell (jp + 1) hj1).1; have p1 := (hSw.cell jp hj0).1; rw [hx.out] at p0; rw [hy.out] at p1); go_simp <;> with_reducible rfl)
      try simp only [Act.put,sA,sB,sC]
      refine takeL 6 (v := ?_) rfl (by kernel_rfl) (by kernel_rfl) (by kernel_rfl) (fun _ _ _ h => h) (by rfl) (by assumption) ?_ ?_
      rotate_left
      ·(intro w hSw; (try dsimp only at hSw); (have p0 := (hSw.cell (jp + 1) hj1).1; have p1 := (hSw.cell jp hj0).1; rw [hx.out] at p0; rw [hy.out] at p1); go_simp <;> with_reducible rfl)
      try simp only [Act.put,sA,sB,sC]
      refine takeL 7 (v := ?_) rfl (by kernel_rfl) (by kernel_rfl) (by kernel_rfl) (fun _ _ _ h => h) (by rfl) (by assumption) ?_ ?_
      rotate_left
      ·(intro w hSw; (try dsimp only at hSw); (have p0 := (hSw.cell (jp + 1) hj1).1; have p1 := (hSw.cell jp hj0).1; rw [hx.out] at p0; rw [hy.out] at p1); go_simp <;> with_reducible rfl)
      try simp only [Act.put,sA,sB,sC]
      refine takeL 8 (v := ?_) rfl (by kernel_rfl) (by kernel_rfl) (by kernel_rfl) (fun _ _ _ h => h) (by rfl) (by assumption) ?_ ?_
      rotate_left
      ·(intro w hSw; (try dsimp only at hSw); (have p0 := (hSw.cell (jp + 1) hj1).1; have p1 := (hSw.cell jp hj0).1; rw [hx.out] at p0; rw [hy.out] at p1); go_simp <;> with_reducible rfl)
      try simp only [Act.put,sA,sB,sC]
      refine takeL 9 (v := ?_) rfl (by kernel_rfl) (by kernel_rfl) (by kernel_rfl) (fun _ _ _ h => h) (by rfl) (by assumption) ?_ ?_
      rotate_left
      ·(intro w hSw; (try dsimp only at hSw); (have p0 := (hSw.cell (jp + 1) hj1).1; have p1 := (hSw.cell jp hj0).1; rw [hx.out] at p0; rw [hy.out] at p1); go_simp <;> with_reducible rfl)
      try simp only [Act.put,sA,sB,sC]
      refine takeL 10 (v := ?_) rfl (by kernel_rfl) (by kernel_rfl) (by kernel_rfl) (fun _ _ _ h => h) (by rfl) (by assumption) ?_ ?_
      rotate_left
      ·(intro w hSw; (try dsimp only at hSw); (have p0 := (hSw.cell (jp + 1) hj1).1; have p1 := (hSw.cell jp hj0).1; rw [hx.out] at p0; rw [hy.out] at p1); go_simp <;> with_reducible rfl)
      try simp only [Act.put,sA,sB,sC]
      refine takeL 11 (v := ?_) rfl (by kernel_rfl) (by kernel_rfl) (by kernel_rfl) (fun _ _ _ h => h) (by rfl) (by assumption) ?_ ?_
      rotate_left
      ·(intro w hSw; (try dsimp only at hSw); (have p0 := (hSw.cell (jp + 1) hj1).1; have p1 := (hSw.cell jp hj0).1; rw [hx.out] at p0; rw [hy.out] at p1); go_simp <;> with_reducible rfl)
      try simp only [Act.put,sA,sB,sC]
      refine takeL 12 (v := ?_) rfl (by kernel_rfl) (by kernel_rfl) (by kernel_rfl) (fun _ _ _ h => h) (by rfl) (by assumption) ?_ ?_
      rotate_left
      ·(intro w hSw; (try dsimp only at hSw); (have p0 := (hSw.cell (jp + 1) hj1).1; have p1 := (hSw.cell jp hj0).1; rw [hx.out] at p0; rw [hy.out] at p1); go_simp <;> with_reducible rfl)
      try simp only [Act.put,sA,sB,sC]
      refine takeL 13 (v := ?_) rfl (by kernel_rfl) (by kernel_rfl) (by kernel_rfl) (fun _ _ _ h => h) (by rfl) (by assumption) ?_ ?_
      rotate_left
      ·(intro w hSw; (try dsimp only at hSw); (have p0 := (hSw.cell (jp + 1) hj1).1; have p1 := (hSw.cell jp hj0).1; rw [hx.out] at p0; rw [hy.out] at p1); go_simp <;> with_reducible rfl)
      try simp only [Act.put,sA,sB,sC]
      refine oneL 14 rfl (by kernel_rfl) (fun K hK => ?_)
      go_simp
      (have hq := HC.out _ x y hHeld.kept hxN hyN; rw [hfx.out, hfy.out] at hq; go_at_call 193; (with_reducible refine hq.mono ?_); rintro e w8 ⟨rfl, rfl⟩)
      refine hK.out _ _ ?_ (fun hHeld2 => ?_)
      ·(try dsimp only)
       (first | exact hSd.drew | exact hHeld.drew)
      clear hK K hHeld
      have hHeld := hHeld2
      clear hHeld2
      try simp only [Act.put,sA,sB,sC]
      refine takeL 15 (v := ?_) rfl (by kernel_rfl) (by kernel_rfl) (by kernel_rfl) (fun _ _ _ h => h) (by rfl) (by assumption) ?_ ?_
      rotate_left
      ·(intro w hSw; (try dsimp only at hSw); (have p0 := (hSw.cell (jp + 1) hj1).1; have p1 := (hSw.cell jp hj0).1; rw [hx.out] at p0; rw [hy.out] at p1); go_simp <;> with_reducible rfl)
      try simp only [Act.put,sA,sB,sC]
      refine takeL 16 (v := ?_) rfl (by kernel_rfl) (by kernel_rfl) (by kernel_rfl) (fun _ _ _ h => h) (by rfl) (by assumption) ?_ ?_
      rotate_left
      ·(intro w hSw; (try dsimp only at hSw); (have p0 := (hSw.cell (jp + 1) hj1).1; have p1 := (hSw.cell jp hj0).1; rw [hx.out] at p0; rw [hy.out] at p1); go_simp <;> with_reducible rfl)
      try simp only [Act.put,sA,sB,sC]
      refine wpAnyH_done (by kernel_rfl) ?_ _
      (try simp only [Exit.inBlock, Exit.then])
      replace hHeld := lh hHeld
      obtain ⟨c0, f0⟩ := hC0.out _ hHeld.out
      obtain ⟨c1, f1⟩ := hC1.out _ hHeld.out
      obtain ⟨u9, c9⟩ := hSd.other (jp + 1) jp y hj1 hj0
      have f9 := (hSd.set (jp + 1) y hj1).cell jp hj0 |>.2
      have hSx := lh (hSd.swap (jp + 1) jp x y hj1 hj0 hx.out hy.out)
      clear hHeld hSd
      go_wp2_with fail
      go_big_region
      (try simp only [Exit.inBlock, Exit.then])
      go_wp2_with fail
      go_roundw
      case rel => exact ⟨jp, _, haj', by omega, rfl, (by first | exact hSx.out | exact hSx.out.drew | exact hSx.out.drew.drew | exact hSx.out.drew.drew.drew), hIn, hqs⟩
      case measure => first | (simp [intOf]; done) | (simp [intOf]; omega)
     ·have hke := lh (hge1.out (by rw [hfx, hfy]; exact hf))
      have g1 : ¬ fx - fy < 0 := by omega
      have g2 : decide (fx - fy < 0) = false := decide_eq_false g1
      have hdone := lh (hI.out.done (g := ke) RI.out haj hji (.inr (by rw [Nat.add_sub_cancel, hyd, hxi.out]; exact hke.out)) hQ.out)
      have hMv := lh (MI.out.wide (Nat.le_refl _) (show i ≤ i + 1 by omega) |>.trans hI.out.mv)
      replace hx := lh hx
      replace hy := lh hy
      replace hyd := lh hyd
      replace hfx := lh hfx
      replace hfy := lh hfy
      clear hlt1 hge1 hke hSd'
      go_wp2_with fail
      refine wp_region_held_drew (S := (fun w' => SD w0 base g n cap d w')) (by kernel_rfl) ?_ (fun hHeld => ?_)
      ·(try dsimp only)
       (first | exact hSd.drew | exact hHeld.drew)
      refine takeL 0 (v := ?_) rfl (by kernel_rfl) (by kernel_rfl) (by kernel_rfl) (fun _ _ _ h => h) (by rfl) (by assumption) ?_ ?_
      rotate_left
      ·(intro w hSw; (try dsimp only at hSw); (have p0 := (hSw.cell (jp + 1) hj1).1; have p1 := (hSw.cell jp hj0).1; rw [hx.out] at p0; rw [hy.out] at p1); go_simp <;> with_reducible rfl)
      try simp only [Act.put,sA,sB,sC]
      refine takeL 1 (v := ?_) rfl (by kernel_rfl) (by kernel_rfl) (by kernel_rfl) (fun _ _ _ h => h) (by rfl) (by assumption) ?_ ?_
      rotate_left
      ·(intro w hSw; (try dsimp only at hSw); (have p0 := (hSw.cell (jp + 1) hj1).1; have p1 := (hSw.cell jp hj0).1; rw [hx.out] at p0; rw [hy.out] at p1); go_simp <;> with_reducible rfl)
      try simp only [Act.put,sA,sB,sC]
      refine takeL 2 (v := ?_) rfl (by kernel_rfl) (by kernel_rfl) (by kernel_rfl) (fun _ _ _ h => h) (by rfl) (by assumption) ?_ ?_
      rotate_left
      ·(intro w hSw; (try dsimp only at hSw); (have p0 := (hSw.cell (jp + 1) hj1).1; have p1 := (hSw.cell jp hj0).1; rw [hx.out] at p0; rw [hy.out] at p1); go_simp <;> with_reducible rfl)
      try simp only [Act.put,sA,sB,sC]
      refine takeL 3 (v := ?_) rfl (by kernel_rfl) (by kernel_rfl) (by kernel_rfl) (fun _ _ _ h => h) (by rfl) (by assumption) ?_ ?_
      rotate_left
      ·(intro w hSw; (try dsimp only at hSw); (have p0 := (hSw.cell (jp + 1) hj1).1; have p1 := (hSw.cell jp hj0).1; rw [hx.out] at p0; rw [hy.out] at p1); go_simp <;> with_reducible rfl)
      try simp only [Act.put,sA,sB,sC]
      refine takeL 4 (v := ?_) rfl (by kernel_rfl) (by kernel_rfl) (by kernel_rfl) (fun _ _ _ h => h) (by rfl) (by assumption) ?_ ?_
      rotate_left
      ·(intro w hSw; (try dsimp only at hSw); (have p0 := (hSw.cell (jp + 1) hj1).1; have p1 := (hSw.cell jp hj0).1; rw [hx.out] at p0; rw [hy.out] at p1); go_simp <;> with_reducible rfl)
      try simp only [Act.put,sA,sB,sC]
      refine takeL 5 (v := ?_) rfl (by kernel_rfl) (by kernel_rfl) (by kernel_rfl) (fun _ _ _ h => h) (by rfl) (by assumption) ?_ ?_
      rotate_left
      ·(intro w hSw; (try dsimp only at hSw); (have p0 := (hSw.cell (jp + 1) hj1).1; have p1 := (hSw.cell jp hj0).1; rw [hx.out] at p0; rw [hy.out] at p1); go_simp <;> with_reducible rfl)
      try simp only [Act.put,sA,sB,sC]
      refine takeL 6 (v := ?_) rfl (by kernel_rfl) (by kernel_rfl) (by kernel_rfl) (fun _ _ _ h => h) (by rfl) (by assumption) ?_ ?_
      rotate_left
      ·(intro w hSw; (try dsimp only at hSw); (have p0 := (hSw.cell (jp + 1) hj1).1; have p1 := (hSw.cell jp hj0).1; rw [hx.out] at p0; rw [hy.out] at p1); go_simp <;> with_reducible rfl)
      try simp only [Act.put,sA,sB,sC]
      refine takeL 7 (v := ?_) rfl (by kernel_rfl) (by kernel_rfl) (by kernel_rfl) (fun _ _ _ h => h) (by rfl) (by assumption) ?_ ?_
      rotate_left
      ·(intro w hSw; (try dsimp only at hSw); (have p0 := (hSw.cell (jp + 1) hj1).1; have p1 := (hSw.cell jp hj0).1; rw [hx.out] at p0; rw [hy.out] at p1); go_simp <;> with_reducible rfl)
      try simp only [Act.put,sA,sB,sC]
      refine takeL 8 (v := ?_) rfl (by kernel_rfl) (by kernel_rfl) (by kernel_rfl) (fun _ _ _ h => h) (by rfl) (by assumption) ?_ ?_
      rotate_left
      ·(intro w hSw; (try dsimp only at hSw); (have p0 := (hSw.cell (jp + 1) hj1).1; have p1 := (hSw.cell jp hj0).1; rw [hx.out] at p0; rw [hy.out] at p1); go_simp <;> with_reducible rfl)
      try simp only [Act.put,sA,sB,sC]
      refine takeL 9 (v := ?_) rfl (by kernel_rfl) (by kernel_rfl) (by kernel_rfl) (fun _ _ _ h => h) (by rfl) (by assumption) ?_ ?_
      rotate_left
      ·(intro w hSw; (try dsimp only at hSw); (have p0 := (hSw.cell (jp + 1) hj1).1; have p1 := (hSw.cell jp hj0).1; rw [hx.out] at p0; rw [hy.out] at p1); go_simp <;> with_reducible rfl)
      try simp only [Act.put,sA,sB,sC]
      refine takeL 10 (v := ?_) rfl (by kernel_rfl) (by kernel_rfl) (by kernel_rfl) (fun _ _ _ h => h) (by rfl) (by assumption) ?_ ?_
      rotate_left
      ·(intro w hSw; (try dsimp only at hSw); (have p0 := (hSw.cell (jp + 1) hj1).1; have p1 := (hSw.cell jp hj0).1; rw [hx.out] at p0; rw [hy.out] at p1); go_simp <;> with_reducible rfl)
      try simp only [Act.put,sA,sB,sC]
      refine takeL 11 (v := ?_) rfl (by kernel_rfl) (by kernel_rfl) (by kernel_rfl) (fun _ _ _ h => h) (by rfl) (by assumption) ?_ ?_
      rotate_left
      ·(intro w hSw; (try dsimp only at hSw); (have p0 := (hSw.cell (jp + 1) hj1).1; have p1 := (hSw.cell jp hj0).1; rw [hx.out] at p0; rw [hy.out] at p1); go_simp <;> with_reducible rfl)
      try simp only [Act.put,sA,sB,sC]
      refine takeL 12 (v := ?_) rfl (by kernel_rfl) (by kernel_rfl) (by kernel_rfl) (fun _ _ _ h => h) (by rfl) (by assumption) ?_ ?_
      rotate_left
      ·(intro w hSw; (try dsimp only at hSw); (have p0 := (hSw.cell (jp + 1) hj1).1; have p1 := (hSw.cell jp hj0).1; rw [hx.out] at p0; rw [hy.out] at p1); go_simp <;> with_reducible rfl)
      try simp only [Act.put,sA,sB,sC]
      refine takeL 13 (v := ?_) rfl (by kernel_rfl) (by kernel_rfl) (by kernel_rfl) (fun _ _ _ h => h) (by rfl) (by assumption) ?_ ?_
      rotate_left
      ·(intro w hSw; (try dsimp only at hSw); (have p0 := (hSw.cell (jp + 1) hj1).1; have p1 := (hSw.cell jp hj0).1; rw [hx.out] at p0; rw [hy.out] at p1); go_simp <;> with_reducible rfl)
      try simp only [Act.put,sA,sB,sC]
      refine oneL 14 rfl (by kernel_rfl) (fun K hK => ?_)
      go_simp
      (have hq := HC.out _ x y hHeld.kept hxN hyN; rw [hfx.out, hfy.out] at hq; go_at_call 193; (with_reducible refine hq.mono ?_); rintro e w8 ⟨rfl, rfl⟩)
      refine hK.out _ _ ?_ (fun hHeld2 => ?_)
      ·(try dsimp only)
       (first | exact hSd.drew | exact hHeld.drew)
      clear hK K hHeld
      have hHeld := hHeld2
      clear hHeld2
      try simp only [Act.put,sA,sB,sC]
      refine takeL 15 (v := ?_) rfl (by kernel_rfl) (by kernel_rfl) (by kernel_rfl) (fun _ _ _ h => h) (by rfl) (by assumption) ?_ ?_
      rotate_left
      ·(intro w hSw; (try dsimp only at hSw); (have p0 := (hSw.cell (jp + 1) hj1).1; have p1 := (hSw.cell jp hj0).1; rw [hx.out] at p0; rw [hy.out] at p1); go_simp <;> with_reducible rfl)
      try simp only [Act.put,sA,sB,sC]
      refine takeL 16 (v := ?_) rfl (by kernel_rfl) (by kernel_rfl) (by kernel_rfl) (fun _ _ _ h => h) (by rfl) (by assumption) ?_ ?_
      rotate_left
      ·(intro w hSw; (try dsimp only at hSw); (have p0 := (hSw.cell (jp + 1) hj1).1; have p1 := (hSw.cell jp hj0).1; rw [hx.out] at p0; rw [hy.out] at p1); go_simp <;> with_reducible rfl)
      try simp only [Act.put,sA,sB,sC]
      refine wpAnyH_done (by kernel_rfl) ?_ _
      (try simp only [Exit.inBlock, Exit.then])
      replace hHeld := lh hHeld
      clear hSd
      go_wp2_with fail
      go_roundw
      case rel => exact ⟨i + 1, d, by omega, by omega, by go_num, hHeld, (show Mv a (min (i + 1) b) d0 d from by rw [Nat.min_eq_left (by omega)]; exact hMv.out), (show Srt ke d a (min (i + 1) b) from by rw [Nat.min_eq_left (by omega)]; exact hdone.out)⟩
      case measure => first | (simp [intOf]; done) | (simp [intOf]; omega)
    ·obtain rfl : j = a := by omega
     have hja1 : ¬ ((j : Int) > (j : Int)) := by omega
     have hja2 : decide ((j : Int) > (j : Int)) = false := decide_eq_false hja1
     have hdone := lh (hI.out.done (g := ke) RI.out haj hji (.inl rfl) hQ.out)
     have hMv := lh (MI.out.wide (Nat.le_refl _) (show i ≤ i + 1 by omega) |>.trans hI.out.mv)
     clear hSd'
     go_wp2_with fail
     refine wp_region_held_drew (S := (fun w' => SD w0 base g n cap d w')) (by kernel_rfl) ?_ (fun hHeld => ?_)
     ·(try dsimp only)
      (first | exact hSd.drew | exact hHeld.drew)
     refine takeQ 0 ?_
     refine takeQ 1 ?_
     refine takeQ 2 ?_
     refine takeQ 3 ?_
     refine idleQ 4 ?_
     refine idleQ 5 ?_
     refine idleQ 6 ?_
     refine idleQ 7 ?_
     refine idleQ 8 ?_
     refine idleQ 9 ?_
     refine idleQ 10 ?_
     refine idleQ 11 ?_
     refine idleQ 12 ?_
     refine idleQ 13 ?_
     refine idleQ 14 ?_
     refine idleQ 15 ?_
     refine takeQ 16 ?_
     refine wpAnyH_done (by kernel_rfl) ?_ _
     (try simp only [Exit.inBlock, Exit.then])
     replace hHeld := lh hHeld
     clear hSd
     go_wp2_with fail
     go_roundw
     case rel => exact ⟨i + 1, d, by omega, by omega, by go_num, hHeld, (show Mv j (min (i + 1) b) d0 d from by rw [Nat.min_eq_left (by omega)]; exact hMv.out), (show Srt ke d j (min (i + 1) b) from by rw [Nat.min_eq_left (by omega)]; exact hdone.out)⟩
     case measure => first | (simp [intOf]; done) | (simp [intOf]; omega)
  ·have hmin : min i b = b := Nat.min_eq_right (by omega)
   rw [hmin] at MI RI
   go_wp2_with fail
   go_end0
   exact ⟨rfl, di, SI.out, MI.out, RI.out⟩
end Go.Proofs.YtkkbngcgphlikaaGreatDoor
end
section
namespace Go.Proofs.YtkkbngcgphlikaaGreatDoor
open Go.RowKit
theorem ret_uu {a b c d : Int} (h : a = b) (h' : c = d) : Ending.returned (.tuple #[.int .u64 a, .int .i64 c]) = .returned (.tuple #[.int .u64 b, .int .i64 d]) := by rw [h, h']
theorem get_stage (x : Int) (w : World) (h0 : 0 ≤ x) (h1 : x < 18446744073709551616) :
 Calls Tryz.prog 165 #[.int .u64 x, .int .i64 0, .int .i64 2] w fun e w' => e = .returned (.int .u64 (x % 4)) ∧ w = w' := by
 refine (get_yes x 0 2 w h0 h1 (by omega) (by omega) (by omega) (by omega)).mono ?_
 rintro e w' ⟨rfl, rfl⟩
 refine ⟨?_, rfl⟩
 obtain ⟨X, rfl⟩ := Int.eq_ofNat_of_zero_le h0
 simp [getI, getN]
theorem get_count (x : Int) (w : World) (h0 : 0 ≤ x) (h1 : x < 18446744073709551616) :
 Calls Tryz.prog 165 #[.int .u64 x, .int .i64 2, .int .i64 14] w fun e w' => e = .returned (.int .u64 (x / 4 % 16384)) ∧ w = w' := by
 refine (get_yes x 2 14 w h0 h1 (by omega) (by omega) (by omega) (by omega)).mono ?_
 rintro e w' ⟨rfl, rfl⟩
 refine ⟨?_, rfl⟩
 obtain ⟨X, rfl⟩ := Int.eq_ofNat_of_zero_le h0
 simp [getI, getN]
theorem get_gen (x : Int) (w : World) (h0 : 0 ≤ x) (h1 : x < 18446744073709551616) :
 Calls Tryz.prog 165 #[.int .u64 x, .int .i64 16, .int .i64 48] w fun e w' => e = .returned (.int .u64 (x / 65536)) ∧ w = w' := by
 refine (get_yes x 16 48 w h0 h1 (by omega) (by omega) (by omega) (by omega)).mono ?_
 rintro e w' ⟨rfl, rfl⟩
 refine ⟨?_, rfl⟩
 obtain ⟨X, rfl⟩ := Int.eq_ofNat_of_zero_le h0
 have e : X / 65536 % 281474976710656 = X / 65536 := Nat.mod_eq_of_lt (by omega)
 simp [getI, getN, e]
theorem put_stage (v : Int) (w : World) (h0 : 0 ≤ v) (h1 : v < 4) :
 Calls Tryz.prog 156 #[.int .u64 0, .int .i64 0, .int .i64 2, .int .u64 v] w fun e w' => e = .returned (.int .u64 v) ∧ w = w' := by
 refine (put_yes 0 0 2 v w (by omega) (by omega) (by omega) (by omega) (by omega) (by omega) h0 (by omega)).mono ?_
 rintro e w' ⟨rfl, rfl⟩
 refine ⟨?_, rfl⟩
 obtain ⟨V, rfl⟩ := Int.eq_ofNat_of_zero_le h0
 have e : V % 4 = V := Nat.mod_eq_of_lt (by omega)
 simp [putI, putN, e]
theorem put_count (x v : Int) (w : World) (hx0 : 0 ≤ x) (hx1 : x < 4) (h0 : 0 ≤ v) (h1 : v < 16384) :
 Calls Tryz.prog 156 #[.int .u64 x, .int .i64 2, .int .i64 14, .int .u64 v] w fun e w' => e = .returned (.int .u64 (x + v * 4)) ∧ w = w' := by
 refine (put_yes x 2 14 v w (by omega) (by omega) (by omega) (by omega) (by omega) (by omega) h0 (by omega)).mono ?_
 rintro e w' ⟨rfl, rfl⟩
 refine ⟨?_, rfl⟩
 obtain ⟨V, rfl⟩ := Int.eq_ofNat_of_zero_le h0
 obtain ⟨X, rfl⟩ := Int.eq_ofNat_of_zero_le hx0
 have e : V % 16384 = V := Nat.mod_eq_of_lt (by omega)
 have e2 : X % 4 = X := Nat.mod_eq_of_lt (by omega)
 have e3 : X / 65536 = 0 := by omega
 simp [putI, putN, e, e2, e3]
theorem put_gen_mk (x v : Int) (w : World) (hx0 : 0 ≤ x) (hx1 : x < 65536) (h0 : 0 ≤ v) (h1 : v < 281474976710656) :
 Calls Tryz.prog 156 #[.int .u64 x, .int .i64 16, .int .i64 48, .int .u64 v] w fun e w' => e = .returned (.int .u64 (x + v * 65536)) ∧ w = w' := by
 refine (put_yes x 16 48 v w (by omega) (by omega) (by omega) (by omega) (by omega) (by omega) h0 (by omega)).mono ?_
 rintro e w' ⟨rfl, rfl⟩
 refine ⟨?_, rfl⟩
 obtain ⟨V, rfl⟩ := Int.eq_ofNat_of_zero_le h0
 obtain ⟨X, rfl⟩ := Int.eq_ofNat_of_zero_le hx0
 have e : V % 281474976710656 = V := Nat.mod_eq_of_lt (by omega)
 have e2 : X % 65536 = X := Nat.mod_eq_of_lt (by omega)
 have e3 : X / 18446744073709551616 = 0 := by omega
 simp [putI, putN, e, e2, e3]
theorem encode_t (s c g : Int) (w : World) (h : okB s c g = true) (hg : 0 ≤ g) :
 Calls Tryz.prog 124 #[.agg #[.int .i64 s, .int .i64 c, .int .u64 g]] w fun e w' => e = .returned (.tuple #[.int .u64 (s + c * 4 + g * 65536), .int .i64 0]) ∧ Below w.heap.size w w' := by
 obtain ⟨h1, h2, h3, h4, h5, h6⟩ := okB_t h
 clear h6
 have H := lh h
 clear h
 go_enter Tryz.func124, Tryz.ntmps124
 go_wp2_with fail
 refine (right_t_mk _ _ _ _ H.out).mono ?_
 rintro e w1 ⟨rfl, hb⟩
 obtain ⟨hc, hf⟩ := bcell hb
 go_wp2_with (first
  | (go_at_call 156; ((with_reducible refine (put_stage s _ (by omega) (by omega)).mono ?_); rintro e w' ⟨rfl, rfl⟩))
  | (go_at_call 156; ((with_reducible refine (put_count s c _ (by omega) (by omega) (by omega) (by omega)).mono ?_); rintro e w' ⟨rfl, rfl⟩))
  | (go_at_call 156; ((with_reducible refine (put_gen_mk (s + c * 4) g _ (by omega) (by omega) (by omega) (by omega)).mono ?_); rintro e w' ⟨rfl, rfl⟩)))
 go_ret2
 exact ⟨rfl, (bZ _ _).trans (hb.mono (by simp))⟩
theorem refEncode_t (s c g : Int) (w : World) (h : okB s c g = true) (hg : 0 ≤ g) :
 Calls Tryz.prog 85 #[.agg #[.int .i64 s, .int .i64 c, .int .u64 g]] w fun e w' => e = .returned (.tuple #[.int .u64 (s + c * 4 + g * 65536), .int .i64 0]) ∧ Below w.heap.size w w' := by
 obtain ⟨h1, h2, h3, h4, h5, h6⟩ := okB_t h
 clear h6
 have H := lh h
 clear h
 go_enter Tryz.func85, Tryz.ntmps85
 go_wp2_with fail
 refine (refRight_t_mk _ _ _ _ H.out).mono ?_
 rintro e w1 ⟨rfl, hb⟩
 obtain ⟨hc, hf⟩ := bcell hb
 go_wp2_with fail
 go_ret2
 exact ⟨ret_uu (by omega) rfl, (bZ _ _).trans (hb.mono (by simp))⟩
theorem refEncode_f (s c g : Int) (w : World) (h : okB s c g = false) :
 Calls Tryz.prog 85 #[.agg #[.int .i64 s, .int .i64 c, .int .u64 g]] w fun e w' => e = .returned (.tuple #[.int .u64 0, .int .i64 1]) ∧ Below w.heap.size w w' := by
 have H := lh h
 clear h
 go_enter Tryz.func85, Tryz.ntmps85
 go_wp2_with fail
 refine (refRight_f_mk _ _ _ _ H.out).mono ?_
 rintro e w1 ⟨rfl, hb⟩
 obtain ⟨hc, hf⟩ := bcell hb
 go_wp2_with fail
 go_ret2
 exact ⟨rfl, (bZ _ _).trans (hb.mono (by simp))⟩
theorem decode_t (x : Int) (w : World) (h0 : 0 ≤ x) (h1 : x < 18446744073709551616) (h : okB (x % 4) (x / 4 % 16384) (x / 65536) = true) :
 Calls Tryz.prog 123 #[.int .u64 x] w fun e w' => e = .returned (.tuple #[.agg #[.int .i64 (x % 4), .int .i64 (x / 4 % 16384), .int .u64 (x / 65536)], .bool true]) ∧ Below w.heap.size w w' := by
 have H := lh h
 clear h
 go_enter Tryz.func123, Tryz.ntmps123
 go_wp2_with (first
  | (go_at_call 165; ((with_reducible refine (get_stage x _ h0 h1).mono ?_); rintro e w' ⟨rfl, rfl⟩))
  | (go_at_call 165; ((with_reducible refine (get_count x _ h0 h1).mono ?_); rintro e w' ⟨rfl, rfl⟩))
  | (go_at_call 165; ((with_reducible refine (get_gen x _ h0 h1).mono ?_); rintro e w' ⟨rfl, rfl⟩))
  | fail)
 refine (right_t_mk _ _ _ _ H.out).mono ?_
 rintro e w1 ⟨rfl, hb⟩
 obtain ⟨hc, hf⟩ := bcell hb
 have hz : w.heap.size + 1 < w1.heap.size := by have := hb.size; simp at this; omega
 have d0 : w1.cell? ⟨w.heap.size, 0, none⟩ = some (.int .i64 0) := by rw [hc _ _ (by simp; omega)]; simp [go_sem]
 have d1 : w1.cell? ⟨w.heap.size, 1, none⟩ = some (.int .i64 0) := by rw [hc _ _ (by simp; omega)]; simp [go_sem]
 have d2 : w1.cell? ⟨w.heap.size, 2, none⟩ = some (.int .u64 0) := by rw [hc _ _ (by simp; omega)]; simp [go_sem]
 have hB : Below w.heap.size w w1 := ((bZ _ _).alloc (by simp) _).trans (hb.mono (by simp; omega))
 go_wp2_with fail
 refine bodyPost_ret (v := .tuple #[.agg #[.int .i64 (x % 4), .int .i64 (x / 4 % 16384), .int .u64 (x / 65536)], .bool true]) (by simp [results, Tryz.results123, go_sem, d0, d1, d2]) rfl ⟨rfl, ?_⟩
 go_grown
theorem decode_f (x : Int) (w : World) (h0 : 0 ≤ x) (h1 : x < 18446744073709551616) (h : okB (x % 4) (x / 4 % 16384) (x / 65536) = false) :
 Calls Tryz.prog 123 #[.int .u64 x] w fun e w' => e = .returned (.tuple #[.agg #[.int .i64 0, .int .i64 0, .int .u64 0], .bool false]) ∧ Below w.heap.size w w' := by
 have H := lh h
 clear h
 go_enter Tryz.func123, Tryz.ntmps123
 go_wp2_with (first
  | (go_at_call 165; ((with_reducible refine (get_stage x _ h0 h1).mono ?_); rintro e w' ⟨rfl, rfl⟩))
  | (go_at_call 165; ((with_reducible refine (get_count x _ h0 h1).mono ?_); rintro e w' ⟨rfl, rfl⟩))
  | (go_at_call 165; ((with_reducible refine (get_gen x _ h0 h1).mono ?_); rintro e w' ⟨rfl, rfl⟩))
  | fail)
 refine (right_f_mk _ _ _ _ H.out).mono ?_
 rintro e w1 ⟨rfl, hb⟩
 obtain ⟨hc, hf⟩ := bcell hb
 have hz : w.heap.size + 1 < w1.heap.size := by have := hb.size; simp at this; omega
 have d0 : w1.cell? ⟨w.heap.size, 0, none⟩ = some (.int .i64 0) := by rw [hc _ _ (by simp; omega)]; simp [go_sem]
 have d1 : w1.cell? ⟨w.heap.size, 1, none⟩ = some (.int .i64 0) := by rw [hc _ _ (by simp; omega)]; simp [go_sem]
 have d2 : w1.cell? ⟨w.heap.size, 2, none⟩ = some (.int .u64 0) := by rw [hc _ _ (by simp; omega)]; simp [go_sem]
 have hB : Below w.heap.size w w1 := ((bZ _ _).alloc (by simp) _).trans (hb.mono (by simp; omega))
 go_wp2_with fail
 refine bodyPost_ret (v := .tuple #[.agg #[.int .i64 0, .int .i64 0, .int .u64 0], .bool false]) (by simp [results, Tryz.results123, go_sem, d0, d1, d2]) rfl ⟨rfl, ?_⟩
 go_grown
def nextG (g : Int) : Int := if g = 281474976710655 then 0 else g + 1
theorem begin_any (s c g : Int) (w : World) (h0 : 0 ≤ g) (h1 : g ≤ 281474976710655) :
 Calls Tryz.prog 105 #[.agg #[.int .i64 s, .int .i64 c, .int .u64 g]] w fun e w' => e = .returned (.agg #[.int .i64 1, .int .i64 0, .int .u64 (nextG g)]) ∧ Below w.heap.size w w' := by
 go_enter Tryz.func105, Tryz.ntmps105
 go_wp2
 go_returns
 refine ⟨?_, by go_grown⟩
 obtain ⟨G, rfl⟩ := Int.eq_ofNat_of_zero_le h0
 have e : ((G : Int) + 1) = ((G + 1 : Nat) : Int) := by omega
 have e2 : bits .and .u64 ((G : Int) + 1) 281474976710655 = nextG G := by
  rw [e, show (281474976710655 : Int) = ((281474976710655 : Nat) : Int) from rfl, u64_and_nat (G + 1) 281474976710655 (by omega) (by omega), nat_mask48]
  unfold nextG
  split <;> omega
 rw [← e2]
end Go.Proofs.YtkkbngcgphlikaaGreatDoor
end
