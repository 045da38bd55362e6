/-
  Part of the proof of JournalSaves.
-/
import Derived.Test.YtkkbngcgphlikaaGreatDoorJv1
import Derived.Test.YtkkbngcgphlikaaGreatDoorJv10
import Derived.Test.YtkkbngcgphlikaaGreatDoorJv11
import Derived.Test.YtkkbngcgphlikaaGreatDoorJv12
import Derived.Test.YtkkbngcgphlikaaGreatDoorJv13
import Derived.Test.YtkkbngcgphlikaaGreatDoorJv14
import Derived.Test.YtkkbngcgphlikaaGreatDoorJv15
import Derived.Test.YtkkbngcgphlikaaGreatDoorJv16
import Derived.Test.YtkkbngcgphlikaaGreatDoorJv17
import Derived.Test.YtkkbngcgphlikaaGreatDoorJv18
import Derived.Test.YtkkbngcgphlikaaGreatDoorJv19
import Derived.Test.YtkkbngcgphlikaaGreatDoorJv2
import Derived.Test.YtkkbngcgphlikaaGreatDoorJv20
import Derived.Test.YtkkbngcgphlikaaGreatDoorJv23
import Derived.Test.YtkkbngcgphlikaaGreatDoorJv24
import Derived.Test.YtkkbngcgphlikaaGreatDoorJv25
import Derived.Test.YtkkbngcgphlikaaGreatDoorJv26
import Derived.Test.YtkkbngcgphlikaaGreatDoorJv27
import Derived.Test.YtkkbngcgphlikaaGreatDoorJv28
import Derived.Test.YtkkbngcgphlikaaGreatDoorJv3
import Derived.Test.YtkkbngcgphlikaaGreatDoorJv34
import Derived.Test.YtkkbngcgphlikaaGreatDoorJv35
import Derived.Test.YtkkbngcgphlikaaGreatDoorJv36
import Derived.Test.YtkkbngcgphlikaaGreatDoorJv4
import Derived.Test.YtkkbngcgphlikaaGreatDoorJv41
import Derived.Test.YtkkbngcgphlikaaGreatDoorJv42
import Derived.Test.YtkkbngcgphlikaaGreatDoorJv44
import Derived.Test.YtkkbngcgphlikaaGreatDoorJv46
import Derived.Test.YtkkbngcgphlikaaGreatDoorJv5
import Derived.Test.YtkkbngcgphlikaaGreatDoorJv6
import Derived.Test.YtkkbngcgphlikaaGreatDoorJv7
import Derived.Test.YtkkbngcgphlikaaGreatDoorJv8
import Derived.Test.YtkkbngcgphlikaaGreatDoorJv9
import Derived.Test.YtkkbngcgphlikaaGreatDoorRows
import Derived.BigQuiet
import Derived.Carry
import Derived.ChangeSlices
import Derived.Deep.QuietTactic
import Derived.Deep.RegionHeld3
import Derived.Deep.SlicePairs
import Derived.Handy
import Derived.Laws.BitsAllLaws
import Derived.Laws.CopyOwn
import Derived.Laws.EntriesVeiled
import Derived.Laws.RangeAny
import Derived.Laws.ShiftsVarLaws
import Derived.Lib.AppendIntMem
import Derived.Lib.AppendZerosOnto
import Derived.Lib.Hide
import Derived.Lib.ItoaNum
import Derived.Lib.SliceRun
import Derived.Lib.Split
import Derived.Lib.SplitLaws
import Derived.Maps.AppendAt
import Derived.OpenShut
import Derived.OwnWalk
import Derived.OwnWalkIn
import Derived.ProofKit
import Derived.Shelf.LaysM
import Derived.Shelf.RegionOpen
import Derived.StillTail
import Derived.WalkLawsBesides
import Derived.WalkSpells
import Derived.ArgAppend
import Derived.BigRegion
import Derived.ChangeKeysEq
import Derived.Laws.OwnMore
import Derived.Laws.ResultCell
import Derived.Lib.SmallJoins
import Derived.LoopIn
import Derived.LoopNIn
import Derived.RangeFuncBound
import Derived.RangeFuncBox
import Derived.RangeFuncCalls
import Derived.RangeFuncFrom
import Derived.RangeFuncLeaves
import Derived.RangeFuncNested
import Derived.RangeFuncWrites
import Derived.Scope
import Derived.Shelf.Abstract
import Derived.TacticsInMore
import Derived.WalkKit
import Derived.Test.YtkkbngcgphlikaaGreatDoorJv0
set_option maxRecDepth 10000
set_option maxHeartbeats 1000000
set_option linter.unusedVariables false
set_option linter.unusedSimpArgs false
section
namespace Go.Proofs.YtkkbngcgphlikaaGreatDoor
open Go.Lib Go.RowKit Go.ChangeShapes Go.WideShapes Go.Deep Go.Shelf
theorem hw4 (W L G : Nat) : (headW W L G).getD 4 0 = G := rfl
theorem hw7 (W L G : Nat) : (headW W L G).getD 7 0 = moreN 0 (headL W L G) := rfl
end Go.Proofs.YtkkbngcgphlikaaGreatDoor
end
section
namespace Go.Proofs.YtkkbngcgphlikaaGreatDoor
open Go.Lib Go.RowKit Go.ChangeShapes Go.WideShapes Go.Deep Go.Shelf
theorem EL.take {α : Type} [Inhabited α] {sz : Nat} {en : α → List Value} {w : World} {A : Option Addr} {n cap : Nat} {l : List α} (h : EL sz en w (.slice A n cap) l) (t : Nat) (ht : t ≤ l.length) : EL sz en w (.slice A t cap) (l.take t) := by
 obtain ⟨A', cap', hv, h⟩ := h
 cases hv
 refine ⟨A, cap, by rw [List.length_take, Nat.min_eq_left ht], fun hl => ?_⟩
 rw [List.length_take, Nat.min_eq_left ht] at hl
 obtain ⟨g, off, hA, hg, hc, hi⟩ := h (by omega)
 refine ⟨g, off, hA, hg, by rw [List.length_take]; omega, fun i h j hj => ?_⟩
 rw [List.length_take] at h
 rw [hi i (by omega) j hj, List.getD_eq_getElem?_getD, List.getD_eq_getElem?_getD, List.getElem?_take_of_lt (by omega)]
end Go.Proofs.YtkkbngcgphlikaaGreatDoor
end
section
namespace Go.Proofs.YtkkbngcgphlikaaGreatDoor
open Go.RowKit Go.ChangeShapes Go.WideShapes Go.Deep
def BL9 (l : List Nat) : Prop := ∀ x ∈ l, x < 256
theorem bytes_open9 {H : Type} {enc : TypeId × Value → H} {P : Program} {W : World} {t e : TypeId} (ht : P.underlying t = some (.slice e)) (he : P.underlying e = some (.int .u8)) (hc : P.cellsOf e = 1) {ad : Option Addr} {len cap : Nat} {d : DataW H} {p : List MemPlace}
 (h : DataW.Trod enc P W 0 (fun _ => true) true t (.slice ad len cap) d p) : ∃ l : List Nat, BL9 l ∧ KL .u8 W (.slice ad len cap) l := by
 obtain ⟨fuel, hf⟩ := h
 rcases open_ints ht he hc hf with ⟨hcs, _⟩ | ⟨a, len', cap', zs, hcs, _, hl, hm, hz, _, hcell, hwz⟩
 ·simp [Value.cells] at hcs
  obtain ⟨rfl, rfl, rfl⟩ := hcs
  exact ⟨[], fun x hx => by simp at hx, none, 0, rfl, fun h => by simp at h⟩
 ·simp [Value.cells] at hcs
  obtain ⟨rfl, rfl, rfl⟩ := hcs
  simp only [if_true] at hz
  have hb : ∀ z ∈ zs, 0 ≤ z ∧ z ≤ 255 := fun z hz => bounds_u8 (hwz z hz)
  have hlen : ((zs.take len).map Int.toNat).length = len := by simp; omega
  refine ⟨(zs.take len).map Int.toNat, fun x hx => ?_, some a, cap, by rw [hlen], fun h0 => ?_⟩
  ·obtain ⟨z, hz1, rfl⟩ := List.mem_map.1 hx
   have := hb z (List.mem_of_mem_take hz1)
   omega
  ·rw [hlen] at h0 ⊢
   have hc0 := hcell 0 (by omega)
   have hsp : a.spot = none := by
    have := spot_none hc0
    unfold Addr.add at this
    simpa using this
   obtain ⟨g, off, sp⟩ := a
   simp only at hsp
   subst hsp
   refine ⟨g, off, rfl, ?_, by omega, fun i hil => ?_⟩
   ·have := World.block_lt_of_cell? _ _ hc0
    simpa [add_plain] using this
   ·have := hcell i (by omega)
    rw [add_plain] at this
    rw [this]
    have hzi : i < zs.length := by omega
    have e1 : ((zs.take len).map Int.toNat).getD i 0 = (zs[i]).toNat := by
     rw [List.getD_eq_getElem?_getD, List.getElem?_map, List.getElem?_take, if_pos hil, List.getElem?_eq_getElem hzi]
     rfl
    have e2 : zs.getD i 0 = zs[i] := by rw [List.getD_eq_getElem?_getD, List.getElem?_eq_getElem hzi]; rfl
    rw [e1, e2, Int.toNat_of_nonneg (hb _ (List.getElem_mem hzi)).1]
abbrev Sx := (Value × Value × Value × Value) × Sk
def SOk_so (W : World) (g : Sx) : Prop := SkM W g.1.1 g.1.2.1 g.1.2.2.1 g.1.2.2.2 g.2 ∧ SkB g.2
def sxV (g : Sx) : Value := skV g.2 g.1.1 g.1.2.1 g.1.2.2.1 g.1.2.2.2
theorem stock_open {H : Type} {enc : TypeId × Value → H} {W : World} {r : Reach} {b1 : Nat} {v : Value} {d : DataW H} {p : List MemPlace} (hv : Value.okWide Tryz.prog W r b1 27 v) (h : DataW.Trod enc Tryz.prog W 0 (fun _ => true) true 27 v d p) :
 ∃ g : Sx, SOk_so W g ∧ v = sxV g := by
 obtain ⟨cs, rfl, hsz⟩ := okWide_struct Tryz.underlying27 hv
 obtain ⟨fuel, h⟩ := h
 rw [show Tryz.prog.cellsOf 27 = 8 by kernel_rfl] at hsz
 obtain ⟨xs, n, _, _, _, hxl, hf⟩ := DataW.trod_struct Tryz.underlying27 h
 have hl : (Value.agg cs).cells.toList.length = 8 := by simpa [Value.cells] using hsz
 have hcs : (Value.agg cs).cells.toList = cs.toList := rfl
 rw [hcs] at hf hl
 obtain ⟨ls, hls⟩ : ∃ ls, cs.toList = ls := ⟨_, rfl⟩
 rw [hls] at hf hl
 match xs, hxl, ls, hl, hls with
 | [y0, y1, y2, y3, y4, y5, y6, y7], _, [u0, u1, u2, u3, u4, u5, u6, u7], _, hls =>
   have g0 : DataW.trod enc Tryz.prog W 0 (fun _ => true) true n 5 ((([u0, u1, u2, u3, u4, u5, u6, u7] : List Value).drop 0).take (Tryz.prog.cellsOf 5)) = some y0 := hf 0 _ rfl
   rw [show Tryz.prog.cellsOf 5 = 1 by kernel_rfl] at g0
   have g1 : DataW.trod enc Tryz.prog W 0 (fun _ => true) true n 5 ((([u0, u1, u2, u3, u4, u5, u6, u7] : List Value).drop 1).take (Tryz.prog.cellsOf 5)) = some y1 := hf 1 _ rfl
   rw [show Tryz.prog.cellsOf 5 = 1 by kernel_rfl] at g1
   have g2 : DataW.trod enc Tryz.prog W 0 (fun _ => true) true n 22 ((([u0, u1, u2, u3, u4, u5, u6, u7] : List Value).drop 2).take (Tryz.prog.cellsOf 22)) = some y2 := hf 2 _ rfl
   rw [show Tryz.prog.cellsOf 22 = 1 by kernel_rfl] at g2
   have g3 : DataW.trod enc Tryz.prog W 0 (fun _ => true) true n 23 ((([u0, u1, u2, u3, u4, u5, u6, u7] : List Value).drop 3).take (Tryz.prog.cellsOf 23)) = some y3 := hf 3 _ rfl
   rw [show Tryz.prog.cellsOf 23 = 1 by kernel_rfl] at g3
   have g4 : DataW.trod enc Tryz.prog W 0 (fun _ => true) true n 23 ((([u0, u1, u2, u3, u4, u5, u6, u7] : List Value).drop 4).take (Tryz.prog.cellsOf 23)) = some y4 := hf 4 _ rfl
   rw [show Tryz.prog.cellsOf 23 = 1 by kernel_rfl] at g4
   have g5 : DataW.trod enc Tryz.prog W 0 (fun _ => true) true n 24 ((([u0, u1, u2, u3, u4, u5, u6, u7] : List Value).drop 5).take (Tryz.prog.cellsOf 24)) = some y5 := hf 5 _ rfl
   rw [show Tryz.prog.cellsOf 24 = 1 by kernel_rfl] at g5
   have g6 : DataW.trod enc Tryz.prog W 0 (fun _ => true) true n 5 ((([u0, u1, u2, u3, u4, u5, u6, u7] : List Value).drop 6).take (Tryz.prog.cellsOf 5)) = some y6 := hf 6 _ rfl
   rw [show Tryz.prog.cellsOf 5 = 1 by kernel_rfl] at g6
   have g7 : DataW.trod enc Tryz.prog W 0 (fun _ => true) true n 25 ((([u0, u1, u2, u3, u4, u5, u6, u7] : List Value).drop 7).take (Tryz.prog.cellsOf 25)) = some y7 := hf 7 _ rfl
   rw [show Tryz.prog.cellsOf 25 = 1 by kernel_rfl] at g7
   obtain ⟨a0, e0, _, w0⟩ := DataW.trod_int Tryz.underlying5 g0
   simp at e0
   subst e0
   have b0 := bounds_u8 w0
   obtain ⟨n0, rfl⟩ := Int.eq_ofNat_of_zero_le (show 0 ≤ a0 by omega)
   obtain ⟨a1, e1, _, w1⟩ := DataW.trod_int Tryz.underlying5 g1
   simp at e1
   subst e1
   have b1 := bounds_u8 w1
   obtain ⟨n1, rfl⟩ := Int.eq_ofNat_of_zero_le (show 0 ≤ a1 by omega)
   obtain ⟨A2, l2, c2, rfl, T2⟩ := sl_cell Tryz.underlying22 g2
   obtain ⟨A3, l3, c3, rfl, T3⟩ := sl_cell Tryz.underlying23 g3
   obtain ⟨A4, l4, c4, rfl, T4⟩ := sl_cell Tryz.underlying23 g4
   obtain ⟨a5, e5, _, w5⟩ := DataW.trod_int Tryz.underlying24 g5
   simp at e5
   subst e5
   have b5 := bounds_u32 w5
   obtain ⟨n5, rfl⟩ := Int.eq_ofNat_of_zero_le (show 0 ≤ a5 by omega)
   obtain ⟨a6, e6, _, w6⟩ := DataW.trod_int Tryz.underlying5 g6
   simp at e6
   subst e6
   have b6 := bounds_u8 w6
   obtain ⟨n6, rfl⟩ := Int.eq_ofNat_of_zero_le (show 0 ≤ a6 by omega)
   obtain ⟨A7, l7, c7, rfl, T7⟩ := sl_cell Tryz.underlying25 g7
   obtain ⟨lt, ht, kt⟩ := halves_open Tryz.underlying22 Tryz.underlying66 (by kernel_rfl) T2
   obtain ⟨ly, hy, ky⟩ := bytes_open9 Tryz.underlying23 Tryz.underlying5 (by kernel_rfl) T3
   obtain ⟨le, he, ke⟩ := bytes_open9 Tryz.underlying23 Tryz.underlying5 (by kernel_rfl) T4
   obtain ⟨lf, hf2, kf⟩ := wordsK_open Tryz.underlying25 Tryz.underlying40 (by kernel_rfl) T7
   refine ⟨((.slice A2 l2 c2, .slice A3 l3 c3, .slice A4 l4 c4, .slice A7 l7 c7), ⟨n0, n1, lt, ly, le, n5, n6, lf⟩), ⟨⟨kt, ky, ke, kf⟩, ⟨by simp only []; omega, by simp only []; omega, ht, fun x hx => hy x hx, fun x hx => he x hx, by simp only []; omega, by simp only []; omega, hf2⟩⟩, ?_⟩
   show Value.agg cs = Value.agg _
   congr 1
   rw [← Array.toList_inj, hls]
end Go.Proofs.YtkkbngcgphlikaaGreatDoor
end
