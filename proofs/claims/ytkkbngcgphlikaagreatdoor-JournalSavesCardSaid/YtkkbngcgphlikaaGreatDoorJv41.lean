/-
  Part of the proof of JournalSaves.
-/
import Derived.Test.YtkkbngcgphlikaaGreatDoorJv1
import Derived.Test.YtkkbngcgphlikaaGreatDoorJv10
import Derived.Test.YtkkbngcgphlikaaGreatDoorJv11
import Derived.Test.YtkkbngcgphlikaaGreatDoorJv12
import Derived.Test.YtkkbngcgphlikaaGreatDoorJv13
import Derived.Test.YtkkbngcgphlikaaGreatDoorJv14
import Derived.Test.YtkkbngcgphlikaaGreatDoorJv15
import Derived.Test.YtkkbngcgphlikaaGreatDoorJv16
import Derived.Test.YtkkbngcgphlikaaGreatDoorJv17
import Derived.Test.YtkkbngcgphlikaaGreatDoorJv18
import Derived.Test.YtkkbngcgphlikaaGreatDoorJv19
import Derived.Test.YtkkbngcgphlikaaGreatDoorJv2
import Derived.Test.YtkkbngcgphlikaaGreatDoorJv20
import Derived.Test.YtkkbngcgphlikaaGreatDoorJv23
import Derived.Test.YtkkbngcgphlikaaGreatDoorJv24
import Derived.Test.YtkkbngcgphlikaaGreatDoorJv25
import Derived.Test.YtkkbngcgphlikaaGreatDoorJv26
import Derived.Test.YtkkbngcgphlikaaGreatDoorJv27
import Derived.Test.YtkkbngcgphlikaaGreatDoorJv28
import Derived.Test.YtkkbngcgphlikaaGreatDoorJv29
import Derived.Test.YtkkbngcgphlikaaGreatDoorJv3
import Derived.Test.YtkkbngcgphlikaaGreatDoorJv34
import Derived.Test.YtkkbngcgphlikaaGreatDoorJv35
import Derived.Test.YtkkbngcgphlikaaGreatDoorJv36
import Derived.Test.YtkkbngcgphlikaaGreatDoorJv4
import Derived.Test.YtkkbngcgphlikaaGreatDoorJv42
import Derived.Test.YtkkbngcgphlikaaGreatDoorJv5
import Derived.Test.YtkkbngcgphlikaaGreatDoorJv6
import Derived.Test.YtkkbngcgphlikaaGreatDoorJv7
import Derived.Test.YtkkbngcgphlikaaGreatDoorJv8
import Derived.Test.YtkkbngcgphlikaaGreatDoorJv9
import Derived.Test.YtkkbngcgphlikaaGreatDoorRows
import Derived.ArgAppend
import Derived.BigQuiet
import Derived.BigRegion
import Derived.Carry
import Derived.ChangeKeysEq
import Derived.ChangeSlices
import Derived.Deep.QuietTactic
import Derived.Deep.RegionHeld3
import Derived.Deep.SlicePairs
import Derived.Handy
import Derived.Laws.BitsAllLaws
import Derived.Laws.CopyOwn
import Derived.Laws.EntriesVeiled
import Derived.Laws.OwnMore
import Derived.Laws.ResultCell
import Derived.Laws.ShiftsVarLaws
import Derived.Lib.AppendZerosOnto
import Derived.Lib.Hide
import Derived.Lib.SliceRun
import Derived.LoopIn
import Derived.LoopNIn
import Derived.Maps.AppendAt
import Derived.OpenShut
import Derived.OwnWalk
import Derived.OwnWalkIn
import Derived.ProofKit
import Derived.RangeFuncBound
import Derived.RangeFuncBox
import Derived.RangeFuncCalls
import Derived.RangeFuncFrom
import Derived.RangeFuncLeaves
import Derived.RangeFuncNested
import Derived.RangeFuncWrites
import Derived.Scope
import Derived.Shelf.Abstract
import Derived.Shelf.RegionOpen
import Derived.StillTail
import Derived.TacticsInMore
import Derived.WalkKit
import Derived.WalkLawsBesides
import Derived.WalkSpells
import Derived.Laws.RangeAny
import Derived.Lib.AppendIntMem
import Derived.Lib.ItoaNum
import Derived.Lib.Split
import Derived.Lib.SplitLaws
import Derived.Shelf.LaysM
import Derived.Maps.Ext
import Derived.Maps.OwnSet
import Derived.Maps.RangeWalk
import Derived.Lib.SmallJoins
import Derived.Test.YtkkbngcgphlikaaGreatDoorJv0
set_option maxRecDepth 10000
set_option maxHeartbeats 1000000
set_option linter.unusedVariables false
set_option linter.unusedSimpArgs false
section
namespace Go.Proofs.YtkkbngcgphlikaaGreatDoor
open Go.Lib Go.RowKit Go.ChangeShapes Go.WideShapes Go.Deep Go.Shelf
theorem fieldQ (x y : Int) (w : World) : (Instr.field 70 (.agg #[.int .i64 x, .int .i64 y]) 0).run Tryz.prog w = .ok (.int .i64 x) w := by kernel_rfl
theorem refPlace_any (N L c j m : Nat) (w : World) (hg : gOk (N : Nat) (L : Nat) = true) (h1 : c < gNat N L) (h2 : j * m ≤ 1000) (h3 : j ≤ 100) (h4 : m ≤ 300000) :
 Calls Tryz.prog 50 #[.agg #[.int .i64 (N : Nat), .int .i64 (L : Nat)], .agg #[.int .i64 (c : Nat), .int .i64 (j : Nat), .int .i64 (m : Nat)]] w fun e w' => e = .returned (.int .i64 (plc N L (c, j, m) : Nat)) ∧ Below w.heap.size w w' := by
 obtain ⟨s1, s2, s3, s4, s5, s6, s7, s8⟩ := pool_size hg
 obtain ⟨F, hF⟩ : ∃ F, 10 + 73 * L + gNat N L + c * 32 = F := ⟨_, rfl⟩
 have hCh := lh (fun w1 => show Calls Tryz.prog 36 #[.agg #[.int .i64 (N : Nat), .int .i64 (L : Nat)], .int .i64 (c : Nat)] w1 (fun e w' => e = .returned (.agg #[.int .i64 (F : Nat), .int .i64 32]) ∧ Below w1.heap.size w1 w') from by
  have h := refChunk_yes (N : Nat) (L : Nat) (c : Nat) w1 hg (by omega) (by omega)
  unfold cFrom at h
  rw [show ((F : Nat) : Int) = 10 + 73 * (L : Int) + gN (N : Nat) (L : Nat) + (c : Int) * 32 from by omega]
  exact h)
 obtain ⟨Q, hQ⟩ : ∃ Q, j * m = Q := ⟨_, rfl⟩
 have hQ1 : (m : Int) * (j : Int) = (Q : Int) := by rw [← hQ]; simp [Int.mul_comm]
 have hQ2 : IntKind.i64.wrap (Q : Int) = (Q : Int) := wrapQ_so _ (by omega) (by omega)
 obtain ⟨R, hR⟩ : ∃ R, F + Q = R := ⟨_, rfl⟩
 have hR1 : (F : Int) + (Q : Int) = (R : Int) := by omega
 have hR2 : IntKind.i64.wrap (R : Int) = (R : Int) := wrapQ_so _ (by omega) (by omega)
 have e : plc N L (c, j, m) = R := by
  show 10 + 73 * L + gNat N L + c * 32 + j * m = R
  omega
 rw [e]
 clear e hR hF hQ hg s1 s2 s3 s4 s5 s6 s7 s8 h1
 have hb0 := bZ w (.cells #[.int .i64 (N : Nat), .int .i64 (L : Nat)] 37)
 have gG := HB.new w #[.int .i64 (N : Nat), .int .i64 (L : Nat)] 37
 obtain ⟨wb1, hwb1⟩ : ∃ x, w.alloc (.cells #[.int .i64 (N : Nat), .int .i64 (L : Nat)] 37) = x := ⟨_, rfl⟩
 have hswb1 : wb1.heap.size = w.heap.size + 1 := by rw [← hwb1]; simp
 rw [hwb1] at hb0 gG
 have hB : Below w.heap.size w wb1 := hb0
 have hb1 := bZ wb1 (.cells #[.int .i64 (c : Nat), .int .i64 (j : Nat), .int .i64 (m : Nat)] 93)
 have gK := HB.new wb1 #[.int .i64 (c : Nat), .int .i64 (j : Nat), .int .i64 (m : Nat)] 93
 obtain ⟨wb2, hwb2⟩ : ∃ x, wb1.alloc (.cells #[.int .i64 (c : Nat), .int .i64 (j : Nat), .int .i64 (m : Nat)] 93) = x := ⟨_, rfl⟩
 have hswb2 : wb2.heap.size = w.heap.size + 2 := by rw [← hwb2]; simp; omega
 rw [hwb2] at hb1 gK
 rw [hswb1] at gK
 replace gG := gG.keep hb1
 replace hB := hB.trans (hb1.mono (by omega))
 obtain ⟨C, hC⟩ : ∃ C, w.heap.size = C := ⟨_, rfl⟩
 rw [hC] at gG gK hswb1 hswb2
 clear hb0 hb1
 have hCF := lh (fun w' (hb : Below wb2.heap.size wb2 w') => show w'.cell? ⟨C, 0, none⟩ = some (.int .i64 (N : Nat)) ∧ w'.cell? ⟨C, 1, none⟩ = some (.int .i64 (L : Nat)) ∧ w'.cell? ⟨C + 1, 0, none⟩ = some (.int .i64 (c : Nat)) ∧ w'.cell? ⟨C + 1, 1, none⟩ = some (.int .i64 (j : Nat)) ∧ w'.cell? ⟨C + 1, 2, none⟩ = some (.int .i64 (m : Nat)) from
  ⟨(gG.keep hb).c2.1, (gG.keep hb).c2.2, (row_cell (gK.keep hb) 0).1, (row_cell (gK.keep hb) 1).1, (row_cell (gK.keep hb) 2).1⟩)
 have hfd := fun w1 => fieldQ (F : Nat) 32 w1
 go_enter Tryz.func50, Tryz.ntmps50
 go_wp2_with fail
 refine wp_region_held_drew (S := (fun w' => Below wb2.heap.size wb2 w')) (by kernel_rfl) (Below.refl _ _).drew (fun hHeld => ?_)
 refine takeH 0 ?_
 refine takeH 1 ?_
 refine takeH 2 ?_
 refine takeH 5 ?_
 refine takeH 6 ?_
 refine takeH 7 ?_
 refine takeH 8 ?_
 refine takeH 9 ?_
 refine oneL 3 rfl (by kernel_rfl) (fun K hK => ?_)
 go_simp
 refine (hCh.out _).mono ?_; rintro e w5 ⟨rfl, hb⟩
 refine hK.out _ _ (hHeld.trans (hb.mono hHeld.size)) (fun hHeld2 => ?_)
 clear hK K hHeld
 have hHeld := hHeld2
 clear hHeld2
 try simp only [Act.put,sA,sB,sC]
 refine takeH 4 ?_
 refine takeH 10 ?_
 refine takeH 11 ?_
 refine wpAnyH_done (by kernel_rfl) ?_ _
 have hBe := hB.trans (hHeld.mono hB.size)
 go_wp2_with fail
 go_ret
 exact ⟨rfl, by first | exact hBe | (rw [hC] at hBe; exact hBe)⟩
end Go.Proofs.YtkkbngcgphlikaaGreatDoor
end
section
namespace Go.Proofs.YtkkbngcgphlikaaGreatDoor
open Go.Lib Go.RowKit Go.ChangeShapes Go.WideShapes Go.Deep Go.Shelf
theorem BKO.formB {w : World} {base : Nat} {v : Value} {l : List Bl} {n : Nat} (h : BKO w base v l) (hn : l.length = n) : ∃ A cap, v = .slice A n cap ∧
 ∀ w1 i, Below w.heap.size w w1 → i < n → ∃ g off, A = some ⟨g, off, none⟩ ∧ n ≤ cap ∧ g < w.heap.size ∧ g < w1.heap.size ∧ w1.cell? ⟨g, off + i * 3, none⟩ = some (.int .i64 ((l.getD i default).1 : Nat)) ∧ w1.cell? ⟨g, off + i * 3 + 1, none⟩ = some (.int .i64 ((l.getD i default).2.1 : Nat)) ∧ w1.cell? ⟨g, off + i * 3 + 2, none⟩ = some (.int .i64 ((l.getD i default).2.2 : Nat)) := by
 obtain ⟨A, cap, hv, h⟩ := EL.form (h.el eB_len) hn
 refine ⟨A, cap, hv, fun w1 i hb hi => ?_⟩
 obtain ⟨g, off, hA, h1, h2, h3, hc⟩ := h w1 i hb hi
 exact ⟨g, off, hA, h1, h2, h3, hc 0 (by omega), hc 1 (by omega), hc 2 (by omega)⟩
theorem bl_len {I : List Nat} {L : Nat} (hg : gOk (I.length : Nat) (L : Nat) = true) : (blI I L).length ≤ 8 * gNat I.length L := by
 unfold blI blksT
 split
 ·rw [← tab_len hg]
  have : ∀ (t : List Nat) (o : Nat), (blksFrom o t).length ≤ 8 * t.length := by
   intro t
   induction t with
   | nil => intro o; exact Nat.zero_le _
   | cons x t ih =>
     intro o
     show (blksAt o x ++ blksFrom (o + 1) t).length ≤ _
     rw [List.length_append, List.length_cons]
     have h1 := ih (o + 1)
     have h2 : (blksAt o x).length ≤ 8 := by
      unfold blksAt
      split
      ·rw [List.length_map]
       unfold liveL
       refine Nat.le_trans (List.length_filter_le _ _) ?_
       rw [List.length_range]
       unfold mnN
       split <;> (try split) <;> (try split) <;> omega
      ·split
       ·simp
       ·exact Nat.zero_le _
     omega
  exact this _ 0
 ·exact Nat.zero_le _
end Go.Proofs.YtkkbngcgphlikaaGreatDoor
end
section
namespace Go.Proofs.YtkkbngcgphlikaaGreatDoor
open Go.Lib Go.RowKit Go.ChangeShapes Go.WideShapes Go.Deep Go.Shelf
abbrev Jx := Nat × Nat × Nat × Value
instance : Inhabited Jx := ⟨(0, 0, 0, .slice none 0 0)⟩
theorem own_ne {α : Type} {e : TypeId} {sz : Nat} {en : α → List Value} {w : World} {b1 b2 : Nat} {u v : Value} {l : List Nat} {xs : List α} (h : OwnU w b1 u l) (k : OwnE e sz en w b2 v xs) (ht : e ≠ 40) : u.ownBlock = none ∨ u.ownBlock ≠ v.ownBlock := by
 rcases h.2 with ⟨rfl, _⟩ | ⟨g, cap, cur, rfl, _, hg, _⟩
 ·exact .inl rfl
 ·right
  intro q
  rcases k.2 with ⟨rfl, _⟩ | ⟨g2, cap2, cur2, rfl, _, hg2, _⟩
  ·cases q
  ·cases q
   rw [hg] at hg2
   cases hg2
   exact ht rfl
end Go.Proofs.YtkkbngcgphlikaaGreatDoor
end
section
namespace Go.Proofs.YtkkbngcgphlikaaGreatDoor
open Go.RowKit Go.ChangeShapes Go.WideShapes Go.Deep
theorem ci : Tryz.prog.cellsOf 3 = 1 := by kernel_rfl
def OL (l : List Ox) : Prop := l.length ≤ 9223372036854775807 ∧ ∀ o ∈ l, OB o
theorem OL.ov {l : List Ox} (h : OL l) : ∀ o ∈ l, o.2.2 < 18446744073709551616 := fun o ho => (h.2 o ho).2.2.2.2
theorem ops_open {H : Type} {enc : TypeId × Value → H} {W : World} {ad : Option Addr} {len cap : Nat} {d : DataW H} {p : List MemPlace}
 (h : DataW.Trod enc Tryz.prog W 0 (fun _ => true) true 29 (.slice ad len cap) d p) : ∃ l : List Ox, OL l ∧ OPL W (.slice ad len cap) l := by
 refine els_open (Ok := OB) Tryz.underlying29 (by kernel_rfl) (by decide) (fun fuel cs x hl hx => ?_) h
 obtain ⟨xs, n, _, _, _, hxl, hf⟩ := DataW.trod_struct Tryz.underlying107 hx
 match xs, hxl, cs, hl with
 | [y0, y1, y2], _, [v0, v1, v2], _ =>
   have ci : Tryz.prog.cellsOf 3 = 1 := by kernel_rfl
   have cu : Tryz.prog.cellsOf 40 = 1 := by kernel_rfl
   have g0 : DataW.trod enc Tryz.prog W 0 (fun _ => true) true n 3 ((([v0, v1, v2] : List Value).drop 0).take (Tryz.prog.cellsOf 3)) = some y0 := hf 0 _ rfl
   have g1 : DataW.trod enc Tryz.prog W 0 (fun _ => true) true n 3 ((([v0, v1, v2] : List Value).drop 1).take (Tryz.prog.cellsOf 3)) = some y1 := hf 1 _ rfl
   have g2 : DataW.trod enc Tryz.prog W 0 (fun _ => true) true n 40 ((([v0, v1, v2] : List Value).drop 2).take (Tryz.prog.cellsOf 40)) = some y2 := hf 2 _ rfl
   rw [ci] at g0 g1
   rw [cu] at g2
   obtain ⟨a0, e0, _, w0⟩ := DataW.trod_int Tryz.underlying3 g0
   obtain ⟨a1, e1, _, w1⟩ := DataW.trod_int Tryz.underlying3 g1
   obtain ⟨a2, e2, _, w2⟩ := DataW.trod_int Tryz.underlying40 g2
   simp at e0 e1 e2
   subst e0 e1 e2
   have b0 := bounds_i64 w0
   have b1 := bounds_i64 w1
   have b2 := bounds_u64 w2
   obtain ⟨n2, rfl⟩ := Int.eq_ofNat_of_zero_le (show 0 ≤ a2 by omega)
   exact ⟨(a0, a1, n2), ⟨by simp only []; omega, by simp only []; omega, by simp only []; omega, by simp only []; omega, by simp only []; omega⟩, rfl⟩
theorem sl_cell {H : Type} {enc : TypeId × Value → H} {P : Program} {W : World} {n : Nat} {t e : TypeId} {u : Value} {y : DataW H × List MemPlace} (ht : P.underlying t = some (.slice e)) (h : DataW.trod enc P W 0 (fun _ => true) true n t [u] = some y) :
 ∃ ad len cap, u = .slice ad len cap ∧ DataW.Trod enc P W 0 (fun _ => true) true t (.slice ad len cap) y.1 y.2 := by
 have hs : ∃ ad len cap, u = .slice ad len cap := by
  obtain ⟨d, p⟩ := y
  rcases open_slice ht h with ⟨hcs, _⟩ | ⟨a, len', cap', m, n', D, Pl, hcs, _⟩
  ·simp at hcs; exact ⟨none, 0, 0, hcs⟩
  ·simp at hcs; exact ⟨some a, len', cap', hcs⟩
 obtain ⟨ad, len, cap, rfl⟩ := hs
 exact ⟨ad, len, cap, rfl, ⟨n, by obtain ⟨d, p⟩ := y; simpa [Value.cells] using h⟩⟩
theorem c8 : Tryz.prog.cellsOf 5 = 1 := by kernel_rfl
end Go.Proofs.YtkkbngcgphlikaaGreatDoor
end
