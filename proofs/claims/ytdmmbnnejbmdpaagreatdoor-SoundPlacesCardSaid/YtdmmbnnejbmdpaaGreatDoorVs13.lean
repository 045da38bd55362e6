/-
  Part of the proof of SoundPlaces.
-/
import Derived.Test.YtdmmbnnejbmdpaaGreatDoorVs1
import Derived.Test.YtdmmbnnejbmdpaaGreatDoorVs12
import Derived.Test.YtdmmbnnejbmdpaaGreatDoorVs17
import Derived.Test.YtdmmbnnejbmdpaaGreatDoorVs2
import Derived.Test.YtdmmbnnejbmdpaaGreatDoorVs6
import Derived.Test.YtdmmbnnejbmdpaaGreatDoorVs7
import Derived.Test.YtdmmbnnejbmdpaaGreatDoorVs8
import Derived.Test.YtdmmbnnejbmdpaaGreatDoorRows
import Derived.BigQuiet
import Derived.Deep.QuietTactic
import Derived.Deep.RegionHeld3
import Derived.WalkLawsBesides
import Derived.WalkSpells
import Derived.Laws.OwnMore
import Derived.Maps.AppendAt
import Derived.OwnWalk
import Derived.LoopIn
import Derived.LoopNIn
import Derived.OwnWalkIn
import Derived.RangeFuncBound
import Derived.RangeFuncBox
import Derived.RangeFuncCalls
import Derived.RangeFuncFrom
import Derived.RangeFuncLeaves
import Derived.RangeFuncNested
import Derived.RangeFuncWrites
import Derived.Shelf.Abstract
import Derived.Shelf.RegionOpen
import Derived.TacticsInMore
import Derived.WalkKit
import Derived.Test.YtdmmbnnejbmdpaaGreatDoorVs0
set_option maxRecDepth 10000
set_option maxHeartbeats 400000
set_option linter.unusedVariables false
set_option linter.unusedSimpArgs false
section
namespace Go.Proofs.YtdmmbnnejbmdpaaGreatDoor
open Go.RowKit
theorem room_ok (W L : Int) (w : World) (h : gOk W L = true) :
 Calls Tryz.prog 100 #[.agg #[.int .i64 W, .int .i64 L]] w fun e w' => e = .returned (.int .i64 (gN W L)) ∧ Below w.heap.size w w' := by
 obtain ⟨h1, h2, h3, h4⟩ := gOk_t h
 have e : (W - (10 + 73 * L)).tdiv 33 = gN W L := by rw [Int.tdiv_eq_ediv_of_nonneg (by omega)]; rfl
 rw [← e]
 exact room_any W L w h1 h2 (by omega) h3
theorem table_t (W L : Int) (w : World) (h : gOk W L = true) :
 Calls Tryz.prog 97 #[.agg #[.int .i64 W, .int .i64 L]] w fun e w' => e = .returned (.agg #[.int .i64 (10 + 73 * L), .int .i64 (gN W L)]) ∧ Below w.heap.size w w' := by
 obtain ⟨h1, h2, _, _⟩ := gOk_t h
 have H := lh h
 clear h
 go_enter Tryz.func97, Tryz.ntmps97
 go_wp2_with fail
 refine (right_t W L _ H.out).mono ?_
 rintro e w1 ⟨rfl, hb1⟩
 have j1 := ((C2.new w (.int .i64 W) (.int .i64 L) 51).alloc (.cells #[.int .i64 0, .int .i64 0] 57)).keep hb1
 have k1 := (C2.new (w.alloc (.cells #[.int .i64 W, .int .i64 L] 51)) (.int .i64 0) (.int .i64 0) 57).keep hb1
 have f1 := (F2.new (w.alloc (.cells #[.int .i64 W, .int .i64 L] 51)) (.int .i64 0) (.int .i64 0) 57).keep (by simp) hb1
 simp only [World.size_alloc] at k1 f1
 have lt1 := j1.lt
 have lt2 := k1.lt
 obtain ⟨c0, c1⟩ := id k1
 obtain ⟨d0, d1⟩ := id j1
 obtain ⟨g0, g1⟩ := id f1
 have hB : Below w.heap.size w w1 := ((bZ _ _).alloc (by simp) _).trans (hb1.mono (by simp; omega))
 go_wp2_with fail
 go_region_with (first
  | (go_at_call 116; refine (table_any W L _ h1 h2).mono ?_; rintro e w6 ⟨rfl, hb⟩; have BB : Below w.heap.size w w6 := (by first | exact BB.trans (hb.mono (Nat.le_of_lt jj.lt)) | exact hB.drew.trans (hb.mono (Nat.le_of_lt j1.drew.lt)) | exact hB.trans (hb.mono (Nat.le_of_lt j1.lt))); have jj : C2 w6 w.heap.size (.int .i64 W) (.int .i64 L) := (by first | exact jj.keep hb | exact j1.drew.keep hb | exact j1.keep hb); have ff : F2 w6 (w.heap.size + 1) := (by first | exact ff.keep kk.lt hb | exact f1.drew.keep k1.drew.lt hb | exact f1.keep k1.lt hb); have kk : C2 w6 (w.heap.size + 1) (.int .i64 0) (.int .i64 0) := (by first | exact kk.keep hb | exact k1.drew.keep hb | exact k1.keep hb); obtain ⟨d0, d1⟩ := id jj; obtain ⟨c0, c1⟩ := id kk; obtain ⟨g0, g1⟩ := id ff)
  | (go_at_call 100; refine (room_ok W L _ H.out).mono ?_; rintro e w7 ⟨rfl, hb⟩; have BB : Below w.heap.size w w7 := (by first | exact BB.trans (hb.mono (Nat.le_of_lt jj.lt)) | exact hB.drew.trans (hb.mono (Nat.le_of_lt j1.drew.lt)) | exact hB.trans (hb.mono (Nat.le_of_lt j1.lt))); have jj : C2 w7 w.heap.size (.int .i64 W) (.int .i64 L) := (by first | exact jj.keep hb | exact j1.drew.keep hb | exact j1.keep hb); have ff : F2 w7 (w.heap.size + 1) := (by first | exact ff.keep kk.lt hb | exact f1.drew.keep k1.drew.lt hb | exact f1.keep k1.lt hb); have kk : C2 w7 (w.heap.size + 1) (.int .i64 0) (.int .i64 0) := (by first | exact kk.keep hb | exact k1.drew.keep hb | exact k1.keep hb); obtain ⟨d0, d1⟩ := id jj; obtain ⟨c0, c1⟩ := id kk; obtain ⟨g0, g1⟩ := id ff))
 all_goals
  go_wp2_with fail
  refine bodyPost_ret (v := .agg #[.int .i64 (10 + 73 * L), .int .i64 (gN W L)]) (by simp [results, Tryz.results97, go_sem, c0, c1]) rfl ⟨rfl, ?_⟩
  exact (BB.setCell (by simp) _).setCell (by simp) _
end Go.Proofs.YtdmmbnnejbmdpaaGreatDoor
end
section
namespace Go.Proofs.YtdmmbnnejbmdpaaGreatDoor
open Go.RowKit
theorem ret_g {a b c d : Int} (h : a = b) (h' : c = d) : Ending.returned (.agg #[.int .i64 a, .int .i64 c]) = .returned (.agg #[.int .i64 b, .int .i64 d]) := by rw [h, h']
theorem field1 (x y : Int) (w : World) : (Instr.field 57 (.agg #[.int .i64 x, .int .i64 y]) 1).run Tryz.prog w = .ok (.int .i64 y) w := by kernel_rfl
theorem field0 (x y : Int) (w : World) : (Instr.field 57 (.agg #[.int .i64 x, .int .i64 y]) 0).run Tryz.prog w = .ok (.int .i64 x) w := by kernel_rfl
theorem chunks_t (W L : Int) (w : World) (h : gOk W L = true) :
 Calls Tryz.prog 118 #[.agg #[.int .i64 W, .int .i64 L]] w fun e w' => e = .returned (.int .i64 (gN W L)) ∧ Below w.heap.size w w' := by
 have H := lh h
 clear h
 have hfd := field1
 go_enter Tryz.func118, Tryz.ntmps118
 go_wp2_with fail
 refine (table_t W L _ H.out).mono ?_
 rintro e w1 ⟨rfl, hb⟩
 go_wp2_with fail
 go_ret
 exact ⟨rfl, (bZ _ _).trans (hb.mono (by simp))⟩
def cFrom (W L i : Int) : Int := 10 + 73 * L + gN W L + i * 32
end Go.Proofs.YtdmmbnnejbmdpaaGreatDoor
end
section
namespace Go.Proofs.YtdmmbnnejbmdpaaGreatDoor
open Go.RowKit
def lOk (W L i : Int) : Bool := gOk W L && decide (0 ≤ i ∧ i < L)
theorem lOk_t {W L i : Int} (h : lOk W L i = true) : gOk W L = true ∧ 0 ≤ i ∧ i < L := by
 simp only [lOk, Bool.and_eq_true, decide_eq_true_eq] at h; exact h
end Go.Proofs.YtdmmbnnejbmdpaaGreatDoor
end
section
namespace Go.Proofs.YtdmmbnnejbmdpaaGreatDoor
open Go.RowKit
def PL (w : World) (v : Value) (l : List Sp) : Prop :=
 ∃ A cap, v = .slice A l.length cap ∧ (0 < l.length → ∃ g off, A = some ⟨g, off, none⟩ ∧ g < w.heap.size ∧ l.length ≤ cap ∧
   ∀ i, i < l.length → w.cell? ⟨g, off + i * 2, none⟩ = some (.int .i64 (l.getD i (0, 0)).1) ∧ w.cell? ⟨g, off + i * 2 + 1, none⟩ = some (.int .i64 (l.getD i (0, 0)).2))
theorem PL.keep {w w1 : World} {v : Value} {l : List Sp} (h : PL w v l) (hb : Below w.heap.size w w1) : PL w1 v l := by
 obtain ⟨A, cap, hv, h⟩ := h
 refine ⟨A, cap, hv, fun hl => ?_⟩
 obtain ⟨g, off, hA, hg, hc, hi⟩ := h hl
 exact ⟨g, off, hA, Nat.lt_of_lt_of_le hg hb.size, hc, fun i h => by rw [(bcell hb).1 _ _ hg, (bcell hb).1 _ _ hg]; exact hi i h⟩
theorem PL.nil (w : World) (A : Option Addr) (cap : Nat) : PL w (.slice A 0 cap) [] := ⟨A, cap, rfl, fun h => by simp at h⟩
theorem PL.form {w : World} {v : Value} {l : List Sp} {n : Nat} (h : PL w v l) (hn : l.length = n) : ∃ A cap, v = .slice A n cap ∧
 ∀ w1 i, Below w.heap.size w w1 → i < n → ∃ g off, A = some ⟨g, off, none⟩ ∧ n ≤ cap ∧ g < w1.heap.size ∧ w1.cell? ⟨g, off + i * 2, none⟩ = some (.int .i64 (l.getD i (0, 0)).1) ∧ w1.cell? ⟨g, off + i * 2 + 1, none⟩ = some (.int .i64 (l.getD i (0, 0)).2) := by
 obtain ⟨A, cap, hv, h⟩ := h
 refine ⟨A, cap, by rw [hv, hn], fun w1 i hb hi => ?_⟩
 obtain ⟨g, off, hA, hg, hc, hcell⟩ := h (by omega)
 refine ⟨g, off, hA, by omega, Nat.lt_of_lt_of_le hg hb.size, ?_, ?_⟩
 ·rw [(bcell hb).1 _ _ hg]; exact (hcell i (by omega)).1
 ·rw [(bcell hb).1 _ _ hg]; exact (hcell i (by omega)).2
end Go.Proofs.YtdmmbnnejbmdpaaGreatDoor
end
section
namespace Go.Proofs.YtdmmbnnejbmdpaaGreatDoor
open Go.RowKit
theorem infoSp : (Tryz.prog.info? 57).map (fun i => (i.zero, i.size, i.bytes)) = some (some (.agg #[.int .i64 0, .int .i64 0]), 2, 16) := by kernel_rfl
def spv : List Sp → List Value
 | [] => []
 | x :: l => .int .i64 x.1 :: .int .i64 x.2 :: spv l
theorem spv_app (l m : List Sp) : spv (l ++ m) = spv l ++ spv m := by
 induction l with
 | nil => rfl
 | cons x l ih => simp [spv, ih]
theorem spv_len (l : List Sp) : (spv l).length = l.length * 2 := by
 induction l with
 | nil => rfl
 | cons x l ih => simp [spv, ih]; omega
theorem spv_at : ∀ (l : List Sp) (i : Nat), i < l.length → (spv l)[i * 2]? = some (.int .i64 (l.getD i (0, 0)).1) ∧ (spv l)[i * 2 + 1]? = some (.int .i64 (l.getD i (0, 0)).2)
 | x :: l, 0, _ => by simp [spv]
 | x :: l, i + 1, h => by
   have := spv_at l i (by simpa using h)
   rw [show (i + 1) * 2 = i * 2 + 1 + 1 by omega]
   simpa [spv] using this
theorem spv_one (l : List Sp) : ∀ u ∈ spv l, u.oneCell' = true := by
 induction l with
 | nil => intro u hu; simp [spv] at hu
 | cons x l ih =>
   intro u hu
   simp only [spv, List.mem_cons] at hu
   rcases hu with rfl | rfl | hu
   ·rfl
   ·rfl
   ·exact ih u hu
def OwnSp (w : World) (base : Nat) (v : Value) (l : List Sp) : Prop := w.ownsRow base 57 2 v l.length (spv l)
theorem OwnSp.keep {w w1 : World} {base : Nat} {v : Value} {l : List Sp} (h : OwnSp w base v l) (hb : Below w.heap.size w w1) : OwnSp w1 base v l := by
 refine ⟨h.1, ?_⟩
 rcases h.2 with h2 | ⟨g, cap, cur, hv, hbg, hg, h1, h2, h3, h4⟩
 ·exact .inl h2
 ·exact .inr ⟨g, cap, cur, hv, hbg, by rw [hb.block g (Array.getElem?_eq_some_iff.1 hg).1]; exact hg, h1, h2, h3, h4⟩
theorem OwnSp.mono {w : World} {base b2 : Nat} {v : Value} {l : List Sp} (h : OwnSp w base v l) (hb : b2 ≤ base) : OwnSp w b2 v l := by
 refine ⟨h.1, ?_⟩
 rcases h.2 with h2 | ⟨g, cap, cur, hv, hbg, hg, h1, h2, h3, h4⟩
 ·exact .inl h2
 ·exact .inr ⟨g, cap, cur, hv, by omega, hg, h1, h2, h3, h4⟩
theorem OwnSp.pl {w : World} {base : Nat} {v : Value} {l : List Sp} (h : OwnSp w base v l) : PL w v l := by
 have h' := h
 rcases h.2 with ⟨hv, hn⟩ | ⟨g, cap, cur, hv, hb, hg, h1, h2, h3, h4⟩
 ·have : l = [] := by
   have hl := spv_len l
   rw [hn] at hl
   exact List.length_eq_zero_iff.1 (by simp at hl; omega)
  subst this
  exact ⟨none, 0, hv, fun h => by simp at h⟩
 ·subst hv
  refine ⟨some ⟨g, 0, none⟩, cap, rfl, fun _ => ⟨g, 0, rfl, (Array.getElem?_eq_some_iff.1 hg).1, h1, fun i hi => ?_⟩⟩
  rw [Nat.zero_add]
  constructor
  ·rw [World.ownsRow.cellAt h' (i * 2) (by omega)]; exact (spv_at l i hi).1
  ·rw [World.ownsRow.cellAt h' (i * 2 + 1) (by omega)]; exact (spv_at l i hi).2
theorem OwnSp.nil (w : World) (base : Nat) : OwnSp w base (.slice none 0 0) [] := World.ownsRow_nil _ _ _ _
theorem OwnSp.lt {w : World} {base : Nat} {v : Value} {l : List Sp} (h : OwnSp w base v l) : ∀ k, v.ownBlock = some k → base ≤ k ∧ k < w.heap.size := World.ownsRow.lt h
theorem OwnSp.kept {w w1 : World} {base : Nat} {v : Value} {l : List Sp} {row : Option Nat} (h : OwnSp w base v l) (hg : w.grownBy w1 row) (hne : v.ownBlock = none ∨ v.ownBlock ≠ row) : OwnSp w1 base v l := World.ownsRow.kept h hg hne
theorem app1 {w : World} {base g : Nat} {v : Value} {l : List Sp} {s : Sp} (hown : OwnSp w base v l) (hx : C2 w g (.int .i64 s.1) (.int .i64 s.2)) (hb : base ≤ w.heap.size) (hsm : l.length ≤ 1000000) :
 ∃ v' w', (Builtin.append_ #[109, 109] 109 #[v, .slice (some ⟨g, 0, none⟩) 1 1]).run Tryz.prog w = .ok v' w' ∧ OwnSp w' base v' (l ++ [s]) ∧ w.grownBy w' v.ownBlock ∧ (v'.ownBlock = v.ownBlock ∨ v'.ownBlock = some w.heap.size) := by
 obtain ⟨i0, hi, hz0, hz1, hz2⟩ := info_parts infoSp
 obtain ⟨v', w', hrun, h1, h2, _, h4⟩ := run_append_own_at (P := Tryz.prog) w base 109 109 57 i0 (.agg #[.int .i64 0, .int .i64 0]) 2 16 Tryz.underlying109 hi hz0 hz1 hz2 rfl (by decide) v l.length (spv l) hown ⟨g, 0, none⟩ 1 1 (spv [s]) rfl
  (fun j u hj => by
    match j, hj with
    | 0, hj => simp only [spv, List.getElem?_cons_zero] at hj; rw [← hj]; simpa [Addr.add] using hx.1
    | 1, hj => simp only [spv, List.getElem?_cons_succ, List.getElem?_cons_zero] at hj; rw [← hj]; simpa [Addr.add] using hx.2
    | j + 2, hj => simp [spv] at hj) (spv_one [s]) (by unfold maxLen; omega) (by omega) hb
 refine ⟨v', w', hrun, ?_, h2, h4⟩
 unfold OwnSp
 rw [List.length_append, spv_app]
 exact h1
end Go.Proofs.YtdmmbnnejbmdpaaGreatDoor
end
section
namespace Go.Proofs.YtdmmbnnejbmdpaaGreatDoor
open Go.RowKit
def PB (x : Sp) : Prop := 0 ≤ x.1 ∧ 0 ≤ x.2 ∧ x.2 ≤ 1000 ∧ x.1 + x.2 ≤ 2199023255552
def PBs (l : List Sp) : Prop := ∀ x ∈ l, PB x
theorem PBs.at {l : List Sp} (h : PBs l) (i : Nat) (hi : i < l.length) : PB (l.getD i (0, 0)) := by
 rw [List.getD_eq_getElem?_getD, List.getElem?_eq_getElem hi]
 exact h _ (List.getElem_mem hi)
end Go.Proofs.YtdmmbnnejbmdpaaGreatDoor
end
section
namespace Go.Proofs.YtdmmbnnejbmdpaaGreatDoor
open Go.RowKit Go.Shelf
attribute [local go_sem] Oper.semAt_some
def pwL (x : Sp) (m : Nat) : List Int := (List.range m).map fun i : Nat => x.1 + (i : Int)
def placesL (l : List Sp) : List Int := l.flatMap fun x => pwL x x.2.toNat
theorem pwL_succ (x : Sp) (m : Nat) : pwL x (m + 1) = pwL x m ++ [x.1 + (m : Int)] := by simp [pwL, List.range_succ]
theorem places_take (l : List Sp) (k : Nat) (h : k < l.length) : placesL (l.take (k + 1)) = placesL (l.take k) ++ pwL (l.getD k (0, 0)) (l.getD k (0, 0)).2.toNat := by
 unfold placesL
 rw [List.take_succ_eq_append_getElem h, List.flatMap_append, List.getD_eq_getElem?_getD, List.getElem?_eq_getElem h]
 simp
end Go.Proofs.YtdmmbnnejbmdpaaGreatDoor
end
section
namespace Go.Proofs.YtdmmbnnejbmdpaaGreatDoor
open Go.RowKit
theorem chunk_yes (W L i : Int) (w : World) (h : gOk W L = true) (hi : 0 ≤ i) (hi2 : i < gN W L) :
 Calls Tryz.prog 66 #[.agg #[.int .i64 W, .int .i64 L], .int .i64 i] w fun e w' => e = .returned (.agg #[.int .i64 (cFrom W L i), .int .i64 32]) ∧ Below w.heap.size w w' := by
 obtain ⟨n1, n2, n3, n4⟩ := gN_bd h
 obtain ⟨h1, h2, h3, h4⟩ := gOk_t h
 have H := lh h
 clear h
 go_enter Tryz.func66, Tryz.ntmps66
 go_wp2_with fail
 refine (table_t W L _ H.out).mono ?_
 rintro e w1 ⟨rfl, hb⟩
 have k1 := (C2.new (w.alloc (.cells #[.int .i64 W, .int .i64 L] 51)) (.int .i64 0) (.int .i64 0) 57).keep hb
 have f1 := (F2.new (w.alloc (.cells #[.int .i64 W, .int .i64 L] 51)) (.int .i64 0) (.int .i64 0) 57).keep (by simp) hb
 simp only [World.size_alloc] at k1 f1
 have lt1 := k1.lt
 obtain ⟨c0, c1⟩ := id k1
 obtain ⟨g0, g1⟩ := id f1
 have hB : Below w.heap.size w w1 := ((bZ _ _).alloc (by simp) _).trans (hb.mono (by simp; omega))
 go_wp2_with fail
 refine bodyPost_ret (v := .agg #[.int .i64 (cFrom W L i), .int .i64 32]) (by simp [results, Tryz.results66, go_sem, c0, c1, lt1, cFrom]) rfl ⟨rfl, ?_⟩
 go_grown
end Go.Proofs.YtdmmbnnejbmdpaaGreatDoor
end
