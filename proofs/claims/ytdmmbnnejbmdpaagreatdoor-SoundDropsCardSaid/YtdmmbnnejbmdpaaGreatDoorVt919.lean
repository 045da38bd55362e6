/-
  Part of the proof of SoundApart,SoundTwins,SoundWords.
-/
import Derived.Test.YtdmmbnnejbmdpaaGreatDoorVt91
import Derived.Test.YtdmmbnnejbmdpaaGreatDoorVt92
import Derived.Test.YtdmmbnnejbmdpaaGreatDoorVt95
import Derived.Test.YtdmmbnnejbmdpaaGreatDoorVt96
import Derived.Test.YtdmmbnnejbmdpaaGreatDoorRows
import Derived.Laws.EntriesVeiled
import Derived.BigQuiet
import Derived.Deep.QuietTactic
import Derived.Deep.RegionHeld3
import Derived.WalkLawsBesides
import Derived.WalkSpells
import Derived.Laws.OwnMore
import Derived.Maps.AppendAt
import Derived.OwnWalk
import Derived.Laws.RangeAny
import Derived.Lib.AppendIntMem
import Derived.Lib.ItoaNum
import Derived.Lib.Split
import Derived.Lib.SplitLaws
import Derived.Shelf.LaysM
import Derived.Shelf.RegionOpen
import Derived.OwnWalkIn
import Derived.Test.YtdmmbnnejbmdpaaGreatDoorVt90
set_option maxRecDepth 10000
set_option linter.unusedVariables false
set_option linter.unusedSimpArgs false
section
namespace Go.Proofs.YtdmmbnnejbmdpaaGreatDoor
open Go.RowKit Go.ChangeShapes Go.WideShapes Go.Deep
def rightB_rd (l : List Ox) : Bool := decide (l.length ≤ 19) && !(l.any wrongB)
theorem rightB_t {l : List Ox} (h : rightB_rd l = true) : l.length ≤ 19 ∧ ∀ o ∈ l, wrongB o = false := by
 simp only [rightB_rd, Bool.and_eq_true, decide_eq_true_eq, Bool.not_eq_true', List.any_eq_false] at h
 exact ⟨h.1, fun o ho => by simpa using h.2 o ho⟩
end Go.Proofs.YtdmmbnnejbmdpaaGreatDoor
end
section
namespace Go.Proofs.YtdmmbnnejbmdpaaGreatDoor
open Go.RowKit Go.ChangeShapes Go.WideShapes Go.Deep
def OVs (l : List Ox) : Prop := ∀ o ∈ l, o.2.2 < 18446744073709551616
theorem OVs.at {l : List Ox} (h : OVs l) (i : Nat) (hi : i < l.length) : (l.getD i default).2.2 < 18446744073709551616 := by
 rw [List.getD_eq_getElem?_getD, List.getElem?_eq_getElem hi]
 exact h _ (List.getElem_mem hi)
end Go.Proofs.YtdmmbnnejbmdpaaGreatDoor
end
section
namespace Go.Proofs.YtdmmbnnejbmdpaaGreatDoor
open Go.RowKit
def PL (w : World) (v : Value) (l : List Sp) : Prop :=
 ∃ A cap, v = .slice A l.length cap ∧ (0 < l.length → ∃ g off, A = some ⟨g, off, none⟩ ∧ g < w.heap.size ∧ l.length ≤ cap ∧
   ∀ i, i < l.length → w.cell? ⟨g, off + i * 2, none⟩ = some (.int .i64 (l.getD i (0, 0)).1) ∧ w.cell? ⟨g, off + i * 2 + 1, none⟩ = some (.int .i64 (l.getD i (0, 0)).2))
theorem PL.keep {w w1 : World} {v : Value} {l : List Sp} (h : PL w v l) (hb : Below w.heap.size w w1) : PL w1 v l := by
 obtain ⟨A, cap, hv, h⟩ := h
 refine ⟨A, cap, hv, fun hl => ?_⟩
 obtain ⟨g, off, hA, hg, hc, hi⟩ := h hl
 exact ⟨g, off, hA, Nat.lt_of_lt_of_le hg hb.size, hc, fun i h => by rw [(bcell hb).1 _ _ hg, (bcell hb).1 _ _ hg]; exact hi i h⟩
theorem PL.nil (w : World) (A : Option Addr) (cap : Nat) : PL w (.slice A 0 cap) [] := ⟨A, cap, rfl, fun h => by simp at h⟩
theorem PL.form {w : World} {v : Value} {l : List Sp} {n : Nat} (h : PL w v l) (hn : l.length = n) : ∃ A cap, v = .slice A n cap ∧
 ∀ w1 i, Below w.heap.size w w1 → i < n → ∃ g off, A = some ⟨g, off, none⟩ ∧ n ≤ cap ∧ g < w1.heap.size ∧ w1.cell? ⟨g, off + i * 2, none⟩ = some (.int .i64 (l.getD i (0, 0)).1) ∧ w1.cell? ⟨g, off + i * 2 + 1, none⟩ = some (.int .i64 (l.getD i (0, 0)).2) := by
 obtain ⟨A, cap, hv, h⟩ := h
 refine ⟨A, cap, by rw [hv, hn], fun w1 i hb hi => ?_⟩
 obtain ⟨g, off, hA, hg, hc, hcell⟩ := h (by omega)
 refine ⟨g, off, hA, by omega, Nat.lt_of_lt_of_le hg hb.size, ?_, ?_⟩
 ·rw [(bcell hb).1 _ _ hg]; exact (hcell i (by omega)).1
 ·rw [(bcell hb).1 _ _ hg]; exact (hcell i (by omega)).2
end Go.Proofs.YtdmmbnnejbmdpaaGreatDoor
end
section
namespace Go.Proofs.YtdmmbnnejbmdpaaGreatDoor
open Go.RowKit
theorem infoSp : (Tryz.prog.info? 57).map (fun i => (i.zero, i.size, i.bytes)) = some (some (.agg #[.int .i64 0, .int .i64 0]), 2, 16) := by kernel_rfl
def spv : List Sp → List Value
 | [] => []
 | x :: l => .int .i64 x.1 :: .int .i64 x.2 :: spv l
theorem spv_app (l m : List Sp) : spv (l ++ m) = spv l ++ spv m := by
 induction l with
 | nil => rfl
 | cons x l ih => simp [spv, ih]
theorem spv_len (l : List Sp) : (spv l).length = l.length * 2 := by
 induction l with
 | nil => rfl
 | cons x l ih => simp [spv, ih]; omega
theorem spv_at : ∀ (l : List Sp) (i : Nat), i < l.length → (spv l)[i * 2]? = some (.int .i64 (l.getD i (0, 0)).1) ∧ (spv l)[i * 2 + 1]? = some (.int .i64 (l.getD i (0, 0)).2)
 | x :: l, 0, _ => by simp [spv]
 | x :: l, i + 1, h => by
   have := spv_at l i (by simpa using h)
   rw [show (i + 1) * 2 = i * 2 + 1 + 1 by omega]
   simpa [spv] using this
theorem spv_one (l : List Sp) : ∀ u ∈ spv l, u.oneCell' = true := by
 induction l with
 | nil => intro u hu; simp [spv] at hu
 | cons x l ih =>
   intro u hu
   simp only [spv, List.mem_cons] at hu
   rcases hu with rfl | rfl | hu
   ·rfl
   ·rfl
   ·exact ih u hu
def OwnSp (w : World) (base : Nat) (v : Value) (l : List Sp) : Prop := w.ownsRow base 57 2 v l.length (spv l)
theorem OwnSp.keep {w w1 : World} {base : Nat} {v : Value} {l : List Sp} (h : OwnSp w base v l) (hb : Below w.heap.size w w1) : OwnSp w1 base v l := by
 refine ⟨h.1, ?_⟩
 rcases h.2 with h2 | ⟨g, cap, cur, hv, hbg, hg, h1, h2, h3, h4⟩
 ·exact .inl h2
 ·exact .inr ⟨g, cap, cur, hv, hbg, by rw [hb.block g (Array.getElem?_eq_some_iff.1 hg).1]; exact hg, h1, h2, h3, h4⟩
theorem OwnSp.mono {w : World} {base b2 : Nat} {v : Value} {l : List Sp} (h : OwnSp w base v l) (hb : b2 ≤ base) : OwnSp w b2 v l := by
 refine ⟨h.1, ?_⟩
 rcases h.2 with h2 | ⟨g, cap, cur, hv, hbg, hg, h1, h2, h3, h4⟩
 ·exact .inl h2
 ·exact .inr ⟨g, cap, cur, hv, by omega, hg, h1, h2, h3, h4⟩
theorem OwnSp.pl {w : World} {base : Nat} {v : Value} {l : List Sp} (h : OwnSp w base v l) : PL w v l := by
 have h' := h
 rcases h.2 with ⟨hv, hn⟩ | ⟨g, cap, cur, hv, hb, hg, h1, h2, h3, h4⟩
 ·have : l = [] := by
   have hl := spv_len l
   rw [hn] at hl
   exact List.length_eq_zero_iff.1 (by simp at hl; omega)
  subst this
  exact ⟨none, 0, hv, fun h => by simp at h⟩
 ·subst hv
  refine ⟨some ⟨g, 0, none⟩, cap, rfl, fun _ => ⟨g, 0, rfl, (Array.getElem?_eq_some_iff.1 hg).1, h1, fun i hi => ?_⟩⟩
  rw [Nat.zero_add]
  constructor
  ·rw [World.ownsRow.cellAt h' (i * 2) (by omega)]; exact (spv_at l i hi).1
  ·rw [World.ownsRow.cellAt h' (i * 2 + 1) (by omega)]; exact (spv_at l i hi).2
theorem OwnSp.nil (w : World) (base : Nat) : OwnSp w base (.slice none 0 0) [] := World.ownsRow_nil _ _ _ _
theorem OwnSp.lt {w : World} {base : Nat} {v : Value} {l : List Sp} (h : OwnSp w base v l) : ∀ k, v.ownBlock = some k → base ≤ k ∧ k < w.heap.size := World.ownsRow.lt h
theorem OwnSp.kept {w w1 : World} {base : Nat} {v : Value} {l : List Sp} {row : Option Nat} (h : OwnSp w base v l) (hg : w.grownBy w1 row) (hne : v.ownBlock = none ∨ v.ownBlock ≠ row) : OwnSp w1 base v l := World.ownsRow.kept h hg hne
theorem app1 {w : World} {base g : Nat} {v : Value} {l : List Sp} {s : Sp} (hown : OwnSp w base v l) (hx : C2 w g (.int .i64 s.1) (.int .i64 s.2)) (hb : base ≤ w.heap.size) (hsm : l.length ≤ 1000000) :
 ∃ v' w', (Builtin.append_ #[109, 109] 109 #[v, .slice (some ⟨g, 0, none⟩) 1 1]).run Tryz.prog w = .ok v' w' ∧ OwnSp w' base v' (l ++ [s]) ∧ w.grownBy w' v.ownBlock ∧ (v'.ownBlock = v.ownBlock ∨ v'.ownBlock = some w.heap.size) := by
 obtain ⟨i0, hi, hz0, hz1, hz2⟩ := info_parts infoSp
 obtain ⟨v', w', hrun, h1, h2, _, h4⟩ := run_append_own_at (P := Tryz.prog) w base 109 109 57 i0 (.agg #[.int .i64 0, .int .i64 0]) 2 16 Tryz.underlying109 hi hz0 hz1 hz2 rfl (by decide) v l.length (spv l) hown ⟨g, 0, none⟩ 1 1 (spv [s]) rfl
  (fun j u hj => by
    match j, hj with
    | 0, hj => simp only [spv, List.getElem?_cons_zero] at hj; rw [← hj]; simpa [Addr.add] using hx.1
    | 1, hj => simp only [spv, List.getElem?_cons_succ, List.getElem?_cons_zero] at hj; rw [← hj]; simpa [Addr.add] using hx.2
    | j + 2, hj => simp [spv] at hj) (spv_one [s]) (by unfold maxLen; omega) (by omega) hb
 refine ⟨v', w', hrun, ?_, h2, h4⟩
 unfold OwnSp
 rw [List.length_append, spv_app]
 exact h1
end Go.Proofs.YtdmmbnnejbmdpaaGreatDoor
end
section
set_option maxRecDepth 100000
namespace Go.Proofs.YtdmmbnnejbmdpaaGreatDoor
open Go.Lib Go.Shelf Go.RowKit
def F3 (w : World) (b : Nat) : Prop := w.frozen? ⟨b, 0, none⟩ = false ∧ w.frozen? ⟨b, 1, none⟩ = false ∧ w.frozen? ⟨b, 2, none⟩ = false
theorem F3.keep {W w1 : World} {b : Nat} (h : F3 W b) (hl : b < W.heap.size) (hb : Below W.heap.size W w1) : F3 w1 b :=
 ⟨by rw [(bcell hb).2 _ _ hl]; exact h.1, by rw [(bcell hb).2 _ _ hl]; exact h.2.1, by rw [(bcell hb).2 _ _ hl]; exact h.2.2⟩
theorem F3.new (w : World) (x y z : Value) (t : TypeId) : F3 (w.alloc (.cells #[x, y, z] t)) w.heap.size := by
 refine ⟨?_, ?_, ?_⟩ <;> simp [go_sem]
def nV (a t n : Int) : Value := .agg #[.int .i64 a, .int .i64 t, .int .u64 n]
def pV : Option (Nat × Nat × Nat) → Value
 | some (a, t, n) => nV a t n
 | none => nV 0 0 0
end Go.Proofs.YtdmmbnnejbmdpaaGreatDoor
end
section
set_option maxRecDepth 100000
namespace Go.Proofs.YtdmmbnnejbmdpaaGreatDoor
open Go.Lib Go.Shelf Go.RowKit
theorem name_any (at_ t s n : Int) (w : World) :
 Calls Tryz.prog 47 #[.int .i64 at_, nV t s n] w fun e w' => e = .returned (nV at_ t n) ∧ Below w.heap.size w w' := by
 unfold nV
 go_enter Tryz.func47, Tryz.ntmps47
 go_wp2
 go_returns
 exact ⟨rfl, by go_grown⟩
end Go.Proofs.YtdmmbnnejbmdpaaGreatDoor
end
