/-
  Part of the proof of SoundTells,SoundGiven.
-/
import Derived.Test.YtdmmbnnejbmdpaaGreatDoorVu91
import Derived.Test.YtdmmbnnejbmdpaaGreatDoorVu910
import Derived.Test.YtdmmbnnejbmdpaaGreatDoorVu912
import Derived.Test.YtdmmbnnejbmdpaaGreatDoorVu916
import Derived.Test.YtdmmbnnejbmdpaaGreatDoorVu917
import Derived.Test.YtdmmbnnejbmdpaaGreatDoorVu918
import Derived.Test.YtdmmbnnejbmdpaaGreatDoorVu919
import Derived.Test.YtdmmbnnejbmdpaaGreatDoorVu92
import Derived.Test.YtdmmbnnejbmdpaaGreatDoorVu920
import Derived.Test.YtdmmbnnejbmdpaaGreatDoorVu921
import Derived.Test.YtdmmbnnejbmdpaaGreatDoorVu922
import Derived.Test.YtdmmbnnejbmdpaaGreatDoorVu923
import Derived.Test.YtdmmbnnejbmdpaaGreatDoorVu924
import Derived.Test.YtdmmbnnejbmdpaaGreatDoorVu925
import Derived.Test.YtdmmbnnejbmdpaaGreatDoorVu927
import Derived.Test.YtdmmbnnejbmdpaaGreatDoorVu928
import Derived.Test.YtdmmbnnejbmdpaaGreatDoorVu929
import Derived.Test.YtdmmbnnejbmdpaaGreatDoorVu93
import Derived.Test.YtdmmbnnejbmdpaaGreatDoorVu930
import Derived.Test.YtdmmbnnejbmdpaaGreatDoorVu94
import Derived.Test.YtdmmbnnejbmdpaaGreatDoorVu95
import Derived.Test.YtdmmbnnejbmdpaaGreatDoorVu96
import Derived.Test.YtdmmbnnejbmdpaaGreatDoorVu97
import Derived.Test.YtdmmbnnejbmdpaaGreatDoorVu98
import Derived.Test.YtdmmbnnejbmdpaaGreatDoorVu99
import Derived.Test.YtdmmbnnejbmdpaaGreatDoorRows
import Derived.BigQuiet
import Derived.Carry
import Derived.ChangeSlices
import Derived.Deep.QuietTactic
import Derived.Deep.RegionHeld3
import Derived.Deep.SlicePairs
import Derived.Handy
import Derived.Laws.BitsAllLaws
import Derived.Laws.CopyOwn
import Derived.Laws.EntriesVeiled
import Derived.Laws.OwnMore
import Derived.Laws.ShiftsVarLaws
import Derived.Lib.AppendZerosOnto
import Derived.Lib.Hide
import Derived.Lib.SliceRun
import Derived.LoopIn
import Derived.LoopNIn
import Derived.Maps.AppendAt
import Derived.OpenShut
import Derived.OwnWalk
import Derived.OwnWalkIn
import Derived.ProofKit
import Derived.RangeFuncBound
import Derived.RangeFuncBox
import Derived.RangeFuncCalls
import Derived.RangeFuncFrom
import Derived.RangeFuncLeaves
import Derived.RangeFuncNested
import Derived.RangeFuncWrites
import Derived.Shelf.Abstract
import Derived.Shelf.RegionOpen
import Derived.StillTail
import Derived.TacticsInMore
import Derived.WalkKit
import Derived.WalkLawsBesides
import Derived.WalkSpells
import Derived.BigRegion
import Derived.Scope
import Derived.Test.YtdmmbnnejbmdpaaGreatDoorVu90
set_option linter.unusedVariables false
set_option linter.unusedSimpArgs false
section
namespace Go.Proofs.YtdmmbnnejbmdpaaGreatDoor
open Go.Lib Go.RowKit Go.ChangeShapes Go.WideShapes Go.Deep
theorem wrapQ (k : Int) (h0 : 0 ≤ k) (h : k ≤ 1000000) : IntKind.i64.wrap k = k := by rw [IntKind.wrap_i64]; omega
abbrev Ob := Nat × Nat × Nat × Nat
def plc (N L : Nat) (b : Bl) : Nat := 10 + 73 * L + gNat N L + b.1 * 32 + b.2.1 * b.2.2
def hdAt (I : List Nat) (p : Nat) : Option (Nat × Nat × Nat) := decH ((I.drop p).take 2)
def objH (I : List Nat) (L : Nat) (b : Bl) : Option Ob := match hdAt I (plc I.length L b) with
 | some (t, s, n) => if romJ (s : Nat) = (b.2.2 : Nat) then some (plc I.length L b, t, s, n) else none
 | none => none
def objE (I : List Nat) (L : Nat) (b : Bl) : Ob := (objH I L b).getD default
def allO (I : List Nat) (L : Nat) (l : List Bl) : Bool := l.all fun b => (objH I L b).isSome
def blI (I : List Nat) (L : Nat) : List Bl := blksT (tabW I L)
def objsP (I : List Nat) (L : Nat) : List Ob := if allO I L (blI I L) = true then (blI I L).map (objE I L) else []
def restN (I : List Nat) (k : Nat) : Bool := (List.range k).all fun i => mkOk (I.getD (10 + i) 0) && decide (mkS (I.getD (10 + i) 0) = 0)
def calmT (t : List Nat) : Bool := t.all fun x => !decide (kN x = 4)
def distR (l : List Nat) (k : Nat) : Bool := (List.range k).all fun i => (List.range i).all fun j => !decide (l.getD j 0 = l.getD i 0)
def serO (l : List Ob) : List Nat := l.map fun o => o.2.2.2
def epoB (I : List Nat) (l : List Ob) : Bool := decide (I.getD 9 0 ≤ 4294967295) && l.all fun o => decide (o.2.2.2 / 4294967296 ≤ I.getD 9 0)
def rootB (I : List Nat) (l : List Ob) : Bool := decide (I.getD 8 0 = 0) || l.any fun o => decide (o.1 = I.getD 8 0)
def soundB (I : List Nat) : Bool :=
 sOk I && (restN I (I.getD 3 0) && ((rightT (tabW I (I.getD 3 0)) && calmT (tabW I (I.getD 3 0))) && (allO I (I.getD 3 0) (blI I (I.getD 3 0)) && (distR (serO (objsP I (I.getD 3 0))) (objsP I (I.getD 3 0)).length && (epoB I (objsP I (I.getD 3 0)) && rootB I (objsP I (I.getD 3 0)))))))
theorem restN_succ (I : List Nat) (k : Nat) : restN I (k + 1) = (restN I k && (mkOk (I.getD (10 + k) 0) && decide (mkS (I.getD (10 + k) 0) = 0))) := by
 unfold restN; rw [List.range_succ, List.all_append]; simp
theorem restN_false {I : List Nat} {k n : Nat} (h : restN I k = false) (hk : k ≤ n) : restN I n = false := by
 induction n with
 | zero => obtain rfl : k = 0 := by omega
           exact h
 | succ n ih =>
   by_cases e : k = n + 1
   ·subst e; exact h
   ·rw [restN_succ, ih (by omega), Bool.false_and]
theorem distR_succ (l : List Nat) (k : Nat) : distR l (k + 1) = (distR l k && (List.range k).all fun j => !decide (l.getD j 0 = l.getD k 0)) := by
 unfold distR; rw [List.range_succ, List.all_append]; simp
theorem distR_false {l : List Nat} {k n : Nat} (h : distR l k = false) (hk : k ≤ n) : distR l n = false := by
 induction n with
 | zero => obtain rfl : k = 0 := by omega
           exact h
 | succ n ih =>
   by_cases e : k = n + 1
   ·subst e; exact h
   ·rw [distR_succ, ih (by omega), Bool.false_and]
theorem blAt_bd {i x : Nat} (hx : okN x = true) {b : Bl} (h : b ∈ blksAt i x) : b.1 = i ∧ ((b.2.2 = 4 ∨ b.2.2 = 8 ∨ b.2.2 = 16) ∧ b.2.1 * b.2.2 + b.2.2 ≤ 32 ∧ b.2.1 ≤ 7 ∨ b.2.1 = 0 ∧ kN x = 2 ∧ b.2.2 = mN x * 32 ∧ 1 ≤ mN x ∧ mN x ≤ 8191) := by
 have hr := okN_t hx
 unfold blksAt at h
 split at h
 ·rename_i hk
  obtain ⟨j, hj, rfl⟩ := List.mem_map.1 h
  unfold liveL at hj
  have hj2 := (List.mem_filter.1 hj).1
  rw [List.mem_range] at hj2
  refine ⟨rfl, .inl ?_⟩
  simp only []
  unfold mnN at hj2
  unfold blN
  by_cases c0 : cN x = 0
  ·rw [if_pos c0] at hj2 ⊢; omega
  ·by_cases c1 : cN x = 1
   ·rw [if_neg c0, if_pos c1] at hj2 ⊢; omega
   ·by_cases c2 : cN x = 2
    ·rw [if_neg c0, if_neg c1, if_pos c2] at hj2 ⊢; omega
    ·rw [if_neg c0, if_neg c1, if_neg c2] at hj2; omega
 ·split at h
  ·rename_i hk
   rw [List.mem_singleton] at h
   subst h
   refine ⟨rfl, .inr ⟨rfl, hk, rfl, ?_⟩⟩
   unfold RightN at hr
   omega
  ·cases h
theorem blFrom_mem : ∀ (o : Nat) (t : List Nat) {b : Bl}, b ∈ blksFrom o t → ∃ i, i < t.length ∧ b ∈ blksAt (o + i) (t.getD i 0)
 | _, [], b, h => by cases h
 | o, x :: t, b, h => by
   unfold blksFrom at h
   rcases List.mem_append.1 h with h | h
   ·exact ⟨0, by simp, by simpa using h⟩
   ·obtain ⟨i, hi, hb⟩ := blFrom_mem (o + 1) t h
    exact ⟨i + 1, by simp; omega, by rw [show o + (i + 1) = o + 1 + i from by omega]; simpa using hb⟩
theorem bl_bd {t : List Nat} {b : Bl} (h : b ∈ blksT t) : b.1 < t.length ∧ ((b.2.2 = 4 ∨ b.2.2 = 8 ∨ b.2.2 = 16) ∧ b.2.1 * b.2.2 + b.2.2 ≤ 32 ∧ b.2.1 ≤ 7 ∨ b.2.1 = 0 ∧ kN (t.getD b.1 0) = 2 ∧ b.2.2 = mN (t.getD b.1 0) * 32 ∧ 1 ≤ mN (t.getD b.1 0) ∧ mN (t.getD b.1 0) ≤ 8191) := by
 unfold blksT at h
 split at h
 ·rename_i ho
  obtain ⟨i, hi, hb⟩ := blFrom_mem 0 t h
  rw [Nat.zero_add] at hb
  have hx : okN (t.getD i 0) = true := by
   rw [List.getD_eq_getElem?_getD, List.getElem?_eq_getElem hi]
   exact List.all_eq_true.1 ho _ (List.getElem_mem hi)
  obtain ⟨h1, h2⟩ := blAt_bd hx hb
  rw [h1]
  exact ⟨hi, h2⟩
 ·cases h
theorem tab_len {I : List Nat} {L : Nat} (hg : gOk (I.length : Nat) (L : Nat) = true) : (tabW I L).length = gNat I.length L := by
 obtain ⟨s1, s2, s3, s4, s5, s6, s7, s8⟩ := pool_size hg
 unfold tabW
 rw [List.length_take, List.length_drop]
 omega
theorem plc_bd {I : List Nat} {L : Nat} (hg : gOk (I.length : Nat) (L : Nat) = true) {b : Bl} (h : b ∈ blI I L) : b.1 < gNat I.length L ∧ b.2.1 * b.2.2 ≤ 28 ∧ b.2.1 ≤ 7 ∧ 4 ≤ b.2.2 ∧ b.2.2 ≤ 300000 ∧ plc I.length L b + 4 ≤ I.length ∧ 10 + 73 * L + gNat I.length L ≤ plc I.length L b := by
 obtain ⟨s1, s2, s3, s4, s5, s6, s7, s8⟩ := pool_size hg
 obtain ⟨h1, h2⟩ := bl_bd h
 rw [tab_len hg] at h1
 obtain ⟨c, j, m⟩ := b
 simp only [] at h1 h2 ⊢
 unfold plc
 simp only []
 rcases h2 with ⟨ha, hb, hc⟩ | ⟨ha, hb, hc, hd, he⟩
 ·refine ⟨h1, ?_, hc, by omega, by omega, ?_, by omega⟩
  ·omega
  ·have : c * 32 + 32 ≤ gNat I.length L * 32 := by omega
   omega
 ·subst ha
  refine ⟨h1, ?_, by omega, by omega, by omega, ?_, by omega⟩
  ·simp
  ·have : c * 32 + 32 ≤ gNat I.length L * 32 := by omega
   simp
   omega
theorem decH_bd {l : List Nat} {t s n : Nat} (h : decH l = some (t, s, n)) : 1 ≤ t ∧ t ≤ 65535 ∧ s ≤ 4096 ∧ 1 ≤ n := by
 unfold decH at h
 split at h
 ·cases h
 ·split at h
  ·rename_i h2
   cases h
   rw [Bool.and_eq_true] at h2
   have := h2.1
   unfold hdB at this
   simp only [Bool.and_eq_true, decide_eq_true_eq] at this
   omega
  ·cases h
theorem romJ_words (s : Nat) (hs : s ≤ 4096) (b : Nat) : (romJ (s : Nat) = (b : Nat)) ↔ (if b < 32 then 0 ≤ clsI (s : Nat) ∧ blkI (clsI (s : Nat)) = (b : Nat) else b % 32 = 0 ∧ chkI (s : Nat) = ((b / 32 : Nat) : Int)) := by
 unfold romJ clsI blkI chkI
 by_cases h : b < 32
 ·rw [if_pos h]
  split
  ·omega
  split
  ·first | (simp; done) | (simp; omega)
  split
  ·first | (simp; done) | (simp; omega)
  split
  ·first | (simp; done) | (simp; omega)
  split
  ·have : ¬ ((s : Int) + 33) / 32 * 32 = (b : Int) := by omega
   simp [this]
  ·omega
 ·rw [if_neg h]
  split
  ·omega
  split
  ·have : ¬ (15 : Int) ≤ (s : Int) := by omega
   simp [this]; omega
  split
  ·have : ¬ (15 : Int) ≤ (s : Int) := by omega
   simp [this]; omega
  split
  ·have : ¬ (15 : Int) ≤ (s : Int) := by omega
   simp [this]; omega
  split
  ·rw [if_pos (by omega)]; omega
  ·omega
end Go.Proofs.YtdmmbnnejbmdpaaGreatDoor
end
section
namespace Go.Proofs.YtdmmbnnejbmdpaaGreatDoor
open Go.Lib Go.RowKit Go.ChangeShapes Go.WideShapes Go.Deep
theorem KL.part {K : IntKind} {w : World} {g off n cap : Nat} {l : List Nat} (h : KL K w (.slice (some ⟨g, off, none⟩) n cap) l) (hn : l.length = n) (f m : Nat) (hf : f + m ≤ n) : KL K w (.slice (some ⟨g, off + f, none⟩) m m) ((l.drop f).take m) := by
 obtain ⟨A, c, hv, h⟩ := h
 simp only [Value.slice.injEq] at hv
 obtain ⟨rfl, -, rfl⟩ := hv
 have hlen : ((l.drop f).take m).length = m := by rw [List.length_take, List.length_drop]; omega
 refine ⟨_, m, by rw [hlen], fun hp => ?_⟩
 rw [hlen] at hp
 obtain ⟨g2, o2, hA, hg, hc, hi⟩ := h (by omega)
 cases hA
 refine ⟨g, off + f, rfl, hg, by rw [hlen]; omega, fun i hi2 => ?_⟩
 rw [hlen] at hi2
 have := hi (f + i) (by omega)
 rw [Nat.add_assoc, this]
 have e : ((l.drop f).take m).getD i 0 = l.getD (f + i) 0 := by
  rw [List.getD_eq_getElem?_getD, List.getD_eq_getElem?_getD, List.getElem?_take, if_pos hi2, List.getElem?_drop]
 rw [e]
theorem KL.addr {K : IntKind} {w : World} {v : Value} {l : List Nat} {n : Nat} (h : KL K w v l) (hn : l.length = n) (hp : 0 < n) : ∃ g off cap, v = .slice (some ⟨g, off, none⟩) n cap ∧ n ≤ cap ∧ g < w.heap.size := by
 obtain ⟨A, c, hv, h⟩ := h
 obtain ⟨g, off, rfl, hg, hc, _⟩ := h (by omega)
 exact ⟨g, off, c, by rw [hv, hn], by omega, hg⟩
theorem WL.part {l : List Nat} (h : WL l) (f m : Nat) : WL ((l.drop f).take m) := fun x hx => h x (List.mem_of_mem_drop (List.mem_of_mem_take hx))
end Go.Proofs.YtdmmbnnejbmdpaaGreatDoor
end
section
namespace Go.Proofs.YtdmmbnnejbmdpaaGreatDoor
open Go.Lib Go.RowKit Go.ChangeShapes Go.WideShapes Go.Deep
theorem OwnSp.chg {S : Nat → Prop} {w w1 : World} {base : Nat} {v : Value} {l : List Sp} (h : OwnSp w base v l) (hc : Chg S w w1) (hn : ∀ k, v.ownBlock = some k → ¬ S k) : OwnSp w1 base v l := by
 refine ⟨h.1, ?_⟩
 rcases h.2 with h2 | ⟨g, cap, cur, hv, hbg, hg, h1, h2, h3, h4⟩
 ·exact .inl h2
 ·exact .inr ⟨g, cap, cur, hv, hbg, by rw [hc.block g (Array.getElem?_eq_some_iff.1 hg).1 (hn g (by rw [hv]; rfl))]; exact hg, h1, h2, h3, h4⟩
theorem OwnSp.one (w : World) (a b : Int) (t : TypeId) (ht : t = 57) : OwnSp (w.alloc (.cells #[.int .i64 a, .int .i64 b] t)) w.heap.size (.slice (some ⟨w.heap.size, 0, none⟩) 1 1) [(a, b)] := by
 subst ht
 exact World.ownsRow_lit (base := w.heap.size) (e := 57) (size := 2) w #[.int .i64 a, .int .i64 b] 1 (Nat.le_refl _) (by unfold maxLen; omega) (by simp)
theorem OwnSp.sl {w : World} {base n : Nat} {v : Value} {l : List Sp} (h : OwnSp w base v l) (hn : l.length = n) : ∃ A c, v = .slice A n c := by
 rcases h.2 with ⟨q, h2⟩ | ⟨g', cap', cur, q, _⟩
 ·exact ⟨none, 0, by rw [q, ← hn, h2]⟩
 ·exact ⟨_, _, by rw [q, hn]⟩
theorem C2.chg {S : Nat → Prop} {w w1 : World} {b : Nat} {x y : Value} (h : C2 w b x y) (hc : Chg S w w1) (hn : ¬ S b) : C2 w1 b x y := by
 have hb := hc.block b h.lt hn
 exact ⟨(World.cell?_of_block hb).trans h.1, (World.cell?_of_block hb).trans h.2⟩
theorem logs_bd {t : List Nat} {ln : Int} : ∀ x ∈ logsT t ln, x < t.length := by
 intro x hx
 unfold logsT at hx
 split at hx
 ·exact (logsR_in hx).1
 ·cases hx
theorem logs_len {t : List Nat} {ln : Int} : (logsT t ln).length ≤ 8 * t.length := by
 unfold logsT
 split
 ·exact logsR_len t ln 8
 ·simp
end Go.Proofs.YtdmmbnnejbmdpaaGreatDoor
end
section
namespace Go.Proofs.YtdmmbnnejbmdpaaGreatDoor
open Go.Lib Go.RowKit Go.ChangeShapes Go.WideShapes Go.Deep
theorem OPL.nil (w : World) : OPL w (.slice none 0 0) [] := ⟨none, 0, rfl, fun h => absurd h (by simp)⟩
end Go.Proofs.YtdmmbnnejbmdpaaGreatDoor
end
section
namespace Go.Proofs.YtdmmbnnejbmdpaaGreatDoor
open Go.Lib Go.RowKit Go.ChangeShapes Go.WideShapes Go.Deep
theorem readB_t {I : List Nat} {W L : Int} (h : readB I W L = true) : poolB I = true ∧ W = (I.length : Nat) ∧ L = (I.getD 3 0 : Nat) := by
 unfold readB at h
 rw [Bool.and_eq_true] at h
 exact ⟨h.1, of_decide_eq_true h.2⟩
def laneB (I : List Nat) (W L ln : Int) : Bool := readB I W L && decide (0 ≤ ln ∧ ln < L)
def logP (I : List Nat) (W L ln : Int) : List Sp := if laneB I W L ln = true then logSp I L.toNat ln.toNat else []
end Go.Proofs.YtdmmbnnejbmdpaaGreatDoor
end
