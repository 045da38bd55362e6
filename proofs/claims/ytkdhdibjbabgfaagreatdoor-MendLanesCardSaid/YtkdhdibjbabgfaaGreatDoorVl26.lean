/-
  Part of the proof of MendLanes.
-/
import Derived.Test.YtkdhdibjbabgfaaGreatDoorVl1
import Derived.Test.YtkdhdibjbabgfaaGreatDoorVl10
import Derived.Test.YtkdhdibjbabgfaaGreatDoorVl12
import Derived.Test.YtkdhdibjbabgfaaGreatDoorVl2
import Derived.Test.YtkdhdibjbabgfaaGreatDoorVl25
import Derived.Test.YtkdhdibjbabgfaaGreatDoorVl4
import Derived.Test.YtkdhdibjbabgfaaGreatDoorVl6
import Derived.Test.YtkdhdibjbabgfaaGreatDoorRows
import Derived.BigQuiet
import Derived.Deep.QuietTactic
import Derived.Deep.RegionHeld3
import Derived.WalkLawsBesides
import Derived.WalkSpells
import Derived.Laws.OwnMore
import Derived.Maps.AppendAt
import Derived.OwnWalk
import Derived.Test.YtkdhdibjbabgfaaGreatDoorVl0
set_option maxRecDepth 10000
set_option maxHeartbeats 1000000
set_option linter.unusedVariables false
set_option linter.unusedSimpArgs false
section
namespace Go.Proofs.YtkdhdibjbabgfaaGreatDoor
open Go.RowKit
def SB (s : Sp) : Prop := -4398046511104 ≤ s.1 ∧ s.1 ≤ 4398046511104 ∧ -4398046511104 ≤ s.1 + s.2 ∧ s.1 + s.2 ≤ 4398046511104
def SBs (l : List Sp) : Prop := ∀ x ∈ l, SB x
theorem SBs.at {l : List Sp} (h : SBs l) (i : Nat) (hi : i < l.length) : SB (l.getD i (0, 0)) := by
 rw [List.getD_eq_getElem?_getD, List.getElem?_eq_getElem hi]
 exact h _ (List.getElem_mem hi)
theorem SB.both {s x : Sp} (h : SB s) (k : SB x) : SB (bothS s x) := by
 unfold SB bothS at *; simp only []; omega
def PL (w : World) (v : Value) (l : List Sp) : Prop :=
 ∃ A cap, v = .slice A l.length cap ∧ (0 < l.length → ∃ g off, A = some ⟨g, off, none⟩ ∧ g < w.heap.size ∧ l.length ≤ cap ∧
   ∀ i, i < l.length → w.cell? ⟨g, off + i * 2, none⟩ = some (.int .i64 (l.getD i (0, 0)).1) ∧ w.cell? ⟨g, off + i * 2 + 1, none⟩ = some (.int .i64 (l.getD i (0, 0)).2))
theorem PL.keep {w w1 : World} {v : Value} {l : List Sp} (h : PL w v l) (hb : Below w.heap.size w w1) : PL w1 v l := by
 obtain ⟨A, cap, hv, h⟩ := h
 refine ⟨A, cap, hv, fun hl => ?_⟩
 obtain ⟨g, off, hA, hg, hc, hi⟩ := h hl
 exact ⟨g, off, hA, Nat.lt_of_lt_of_le hg hb.size, hc, fun i h => by rw [(bcell hb).1 _ _ hg, (bcell hb).1 _ _ hg]; exact hi i h⟩
theorem PL.nil (w : World) (A : Option Addr) (cap : Nat) : PL w (.slice A 0 cap) [] := ⟨A, cap, rfl, fun h => by simp at h⟩
theorem PL.form {w : World} {v : Value} {l : List Sp} {n : Nat} (h : PL w v l) (hn : l.length = n) : ∃ A cap, v = .slice A n cap ∧
 ∀ w1 i, Below w.heap.size w w1 → i < n → ∃ g off, A = some ⟨g, off, none⟩ ∧ n ≤ cap ∧ g < w1.heap.size ∧ w1.cell? ⟨g, off + i * 2, none⟩ = some (.int .i64 (l.getD i (0, 0)).1) ∧ w1.cell? ⟨g, off + i * 2 + 1, none⟩ = some (.int .i64 (l.getD i (0, 0)).2) := by
 obtain ⟨A, cap, hv, h⟩ := h
 refine ⟨A, cap, by rw [hv, hn], fun w1 i hb hi => ?_⟩
 obtain ⟨g, off, hA, hg, hc, hcell⟩ := h (by omega)
 refine ⟨g, off, hA, by omega, Nat.lt_of_lt_of_le hg hb.size, ?_, ?_⟩
 ·rw [(bcell hb).1 _ _ hg]; exact (hcell i (by omega)).1
 ·rw [(bcell hb).1 _ _ hg]; exact (hcell i (by omega)).2
theorem same_any_pc (v u : Value) (l m : List Sp) (w : World) (hlen : l.length ≤ 1000000) (hv : PL w v l) (hu : PL w u m) :
 Calls Tryz.prog 16 #[v, u] w fun e w' => e = .returned (.bool (decide (l = m))) ∧ Below w.heap.size w w' := by
 obtain ⟨n, hn⟩ : ∃ n, l.length = n := ⟨_, rfl⟩
 obtain ⟨n2, hn2⟩ : ∃ n, m.length = n := ⟨_, rfl⟩
 obtain ⟨A, cap, rfl, hC⟩ := hv.form hn
 obtain ⟨A2, cap2, rfl, hC2⟩ := hu.form hn2
 have hne := lh (fun (h : ¬ l = m) => show decide (l = m) = false from decide_eq_false h)
 by_cases hnn : n = n2
 ·subst hnn
  have hyes := lh (fun (h : ∀ j, j < n → l.getD j (0, 0) = m.getD j (0, 0)) => show decide (l = m) = true from by
   refine decide_eq_true ?_
   apply List.ext_getElem (by omega)
   intro i h1 h2
   have := h i (by omega)
   rwa [List.getD_eq_getElem?_getD, List.getD_eq_getElem?_getD, List.getElem?_eq_getElem h1, List.getElem?_eq_getElem h2] at this)
  replace hC := lh hC
  replace hC2 := lh hC2
  have hlen' : n ≤ 1000000 := by omega
  clear hlen
  replace hn := lh hn
  replace hn2 := lh hn2
  go_enter Tryz.func16, Tryz.ntmps16
  go_wp2_with fail
  go_loopw [5] (fun i wr => ∃ k : Nat, k ≤ n ∧ i = .int .i64 k ∧ Hid (∀ j, j < k → l.getD j (0, 0) = m.getD j (0, 0)) ∧ Below w.heap.size w wr) (fun i _ => n + 1 - (intOf i).toNat)
  case atStart => exact ⟨0, Nat.zero_le _, rfl, (fun j hj => by omega), Below.refl _ _⟩
  case round =>
   obtain ⟨k, hk, rfl, hF, hB⟩ := hrel
   by_cases hlt : k < n
   ·obtain ⟨g, off, rfl, hcap, hg, c0, c1⟩ := hC.out wr k hB hlt
    obtain ⟨g2, off2, rfl, hcap2, hg2, d0, d1⟩ := hC2.out wr k hB hlt
    have hlt' : (k : Int) < (n : Int) := by omega
    have hF2 := lh (fun (h : l.getD k (0, 0) = m.getD k (0, 0)) j (hj : j < k + 1) => show l.getD j (0, 0) = m.getD j (0, 0) from by
     by_cases e : j = k
     ·subst e; exact h
     ·exact hF.out j (by omega))
    have hF3 := lh (fun (h : ¬ l.getD k (0, 0) = m.getD k (0, 0)) => show decide (l = m) = false from decide_eq_false (fun q => h (by rw [q])))
    generalize l.getD k (0, 0) = s at *
    generalize m.getD k (0, 0) = t at *
    obtain ⟨a, b⟩ := s
    obtain ⟨c, d⟩ := t
    simp only [] at c0 c1 d0 d1
    by_cases hac : a = c
    ·subst hac
     by_cases hbd : b = d
     ·subst hbd
      have hR := lh (hF2.out rfl)
      go_wp2_with fail
      go_region
      all_goals (try go_wp2_with fail)
      go_roundw
      case rel => exact ⟨k + 1, by omega, by go_num, hR, hB.drew⟩
      case measure => simp [intOf]; omega
     ·have hR := lh (hF3.out (by simp [hbd]))
      have f1 : (b == d) = false := by rw [beq_eq_false_iff_ne]; exact hbd
      clear hbd
      go_wp2_with fail
      go_region
      all_goals (try go_wp2_with fail)
      all_goals
       go_ret
       exact ⟨by rw [hR.out]; rfl, hB.drew⟩
    ·have hR := lh (hF3.out (by simp [hac]))
     have f1 : (a == c) = false := by rw [beq_eq_false_iff_ne]; exact hac
     clear hac
     go_wp2_with fail
     go_region
     all_goals (try go_wp2_with fail)
     all_goals
      go_ret
      exact ⟨by rw [hR.out]; rfl, hB.drew⟩
   ·obtain rfl : k = n := by omega
    have hR := lh (hyes.out hF.out)
    go_wp2_with fail
    go_ret
    exact ⟨by rw [hR.out]; rfl, hB⟩
 ·have hR := lh (hne.out (fun h => hnn (by rw [← hn, ← hn2, h])))
  have f1 : ((n : Int) != (n2 : Int)) = true := by rw [bne_iff_ne]; omega
  clear hn hn2 hv hu hC hC2 hnn
  go_enter Tryz.func16, Tryz.ntmps16
  go_wp2_with fail
  go_ret
  exact ⟨by rw [hR.out]; rfl, Below.refl _ _⟩
theorem dN {B : Nat} {a w : World} (h : Below B a w) (n : Nat) : Below B a (w.drewN n) := ⟨h.os, h.tape, h.output, h.size, h.block⟩
theorem totS_take (l : List Sp) (k : Nat) (h : k < l.length) : totS (l.take (k + 1)) = totS (l.take k) + (l.getD k (0, 0)).2 := by
 rw [List.take_succ_eq_append_getElem h, totS_app, List.getD_eq_getElem?_getD, List.getElem?_eq_getElem h, totS_cons, totS_nil, Option.getD_some]
 omega
theorem totS_bd (l : List Sp) (hl : SBs l) : ∀ k, k ≤ l.length → -8796093022208 * (k : Int) ≤ totS (l.take k) ∧ totS (l.take k) ≤ 8796093022208 * (k : Int)
 | 0, _ => by simp [totS_nil]
 | k + 1, h => by
   have := totS_bd l hl k (by omega)
   obtain ⟨h1, h2, h3, h4⟩ := hl.at k (by omega)
   rw [totS_take l k (by omega)]
   omega
theorem total_any (v : Value) (l : List Sp) (w : World) (hl : SBs l) (hlen : l.length ≤ 1000) (hv : PL w v l) :
 Calls Tryz.prog 97 #[v] w fun e w' => e = .returned (.int .i64 (totS l)) ∧ Below w.heap.size w w' := by
 obtain ⟨n, hn⟩ : ∃ n, l.length = n := ⟨_, rfl⟩
 obtain ⟨A, cap, rfl, hC⟩ := hv.form hn
 have hI := lh (fun i (hi : i < n) => hl.at i (by omega))
 have hD := lh (fun i (hi : i ≤ n) => totS_bd l hl i (by omega))
 have hS := lh (fun i (hi : i < n) => totS_take l i (by omega))
 have hE := lh (show totS (l.take n) = totS l from by rw [List.take_of_length_le (by omega)])
 replace hC := lh hC
 have hlen' : n ≤ 1000 := by omega
 clear hl hlen hn
 go_enter Tryz.func97, Tryz.ntmps97
 go_wp2_with fail
 go_loopw [3, 5, 8] (fun s b x wr => ∃ k : Nat, ∃ t : Int, k ≤ n ∧ x = .int .i64 k ∧ s = .int .i64 t ∧ Hid (t = totS (l.take k)) ∧ Below w.heap.size w wr) (fun _ _ i _ => n + 1 - (intOf i).toNat)
 case atStart => exact ⟨0, 0, Nat.zero_le _, rfl, rfl, rfl, Below.refl _ _⟩
 case round =>
  obtain ⟨k, t, hk, rfl, rfl, hT, hB⟩ := hrel
  by_cases hlt : k < n
  ·obtain ⟨g, off, rfl, hcap, hg, c0, c1⟩ := hC.out wr k hB hlt
   have hlt' : (k : Int) < (n : Int) := by omega
   obtain ⟨h1, h2, h3, h4⟩ := hI.out k hlt
   have hd := hD.out k (by omega)
   rw [← hT.out] at hd
   have hT2 := lh (show t + (l.getD k (0, 0)).2 = totS (l.take (k + 1)) from by rw [hS.out k hlt, ← hT.out])
   generalize l.getD k (0, 0) = s at *
   obtain ⟨a, b⟩ := s
   simp only [] at h1 h2 h3 h4 c0 c1 hT2
   go_wp2_with fail
   go_roundw
   case rel => exact ⟨k + 1, t + b, by omega, by go_num, by go_num, hT2, hB.alloc hB.size _⟩
   case measure => simp [intOf]; omega
  ·obtain rfl : k = n := by omega
   have hR := lh (show t = totS l from by rw [hT.out, hE.out])
   clear hT
   go_wp2_with fail
   go_ret
   exact ⟨by rw [hR.out]; rfl, hB⟩
end Go.Proofs.YtkdhdibjbabgfaaGreatDoor
end
section
namespace Go.Proofs.YtkdhdibjbabgfaaGreatDoor
open Go.RowKit
theorem infoSp : (Tryz.prog.info? 51).map (fun i => (i.zero, i.size, i.bytes)) = some (some (.agg #[.int .i64 0, .int .i64 0]), 2, 16) := by kernel_rfl
def spv : List Sp → List Value
 | [] => []
 | x :: l => .int .i64 x.1 :: .int .i64 x.2 :: spv l
theorem spv_app (l m : List Sp) : spv (l ++ m) = spv l ++ spv m := by
 induction l with
 | nil => rfl
 | cons x l ih => simp [spv, ih]
theorem spv_len (l : List Sp) : (spv l).length = l.length * 2 := by
 induction l with
 | nil => rfl
 | cons x l ih => simp [spv, ih]; omega
theorem spv_at : ∀ (l : List Sp) (i : Nat), i < l.length → (spv l)[i * 2]? = some (.int .i64 (l.getD i (0, 0)).1) ∧ (spv l)[i * 2 + 1]? = some (.int .i64 (l.getD i (0, 0)).2)
 | x :: l, 0, _ => by simp [spv]
 | x :: l, i + 1, h => by
   have := spv_at l i (by simpa using h)
   rw [show (i + 1) * 2 = i * 2 + 1 + 1 by omega]
   simpa [spv] using this
theorem spv_one (l : List Sp) : ∀ u ∈ spv l, u.oneCell' = true := by
 induction l with
 | nil => intro u hu; simp [spv] at hu
 | cons x l ih =>
   intro u hu
   simp only [spv, List.mem_cons] at hu
   rcases hu with rfl | rfl | hu
   ·rfl
   ·rfl
   ·exact ih u hu
def OwnSp (w : World) (base : Nat) (v : Value) (l : List Sp) : Prop := w.ownsRow base 51 2 v l.length (spv l)
theorem OwnSp.keep {w w1 : World} {base : Nat} {v : Value} {l : List Sp} (h : OwnSp w base v l) (hb : Below w.heap.size w w1) : OwnSp w1 base v l := by
 refine ⟨h.1, ?_⟩
 rcases h.2 with h2 | ⟨g, cap, cur, hv, hbg, hg, h1, h2, h3, h4⟩
 ·exact .inl h2
 ·exact .inr ⟨g, cap, cur, hv, hbg, by rw [hb.block g (Array.getElem?_eq_some_iff.1 hg).1]; exact hg, h1, h2, h3, h4⟩
theorem OwnSp.mono {w : World} {base b2 : Nat} {v : Value} {l : List Sp} (h : OwnSp w base v l) (hb : b2 ≤ base) : OwnSp w b2 v l := by
 refine ⟨h.1, ?_⟩
 rcases h.2 with h2 | ⟨g, cap, cur, hv, hbg, hg, h1, h2, h3, h4⟩
 ·exact .inl h2
 ·exact .inr ⟨g, cap, cur, hv, by omega, hg, h1, h2, h3, h4⟩
theorem OwnSp.pl {w : World} {base : Nat} {v : Value} {l : List Sp} (h : OwnSp w base v l) : PL w v l := by
 have h' := h
 rcases h.2 with ⟨hv, hn⟩ | ⟨g, cap, cur, hv, hb, hg, h1, h2, h3, h4⟩
 ·have : l = [] := by
   have hl := spv_len l
   rw [hn] at hl
   exact List.length_eq_zero_iff.1 (by simp at hl; omega)
  subst this
  exact ⟨none, 0, hv, fun h => by simp at h⟩
 ·subst hv
  refine ⟨some ⟨g, 0, none⟩, cap, rfl, fun _ => ⟨g, 0, rfl, (Array.getElem?_eq_some_iff.1 hg).1, h1, fun i hi => ?_⟩⟩
  rw [Nat.zero_add]
  constructor
  ·rw [World.ownsRow.cellAt h' (i * 2) (by omega)]; exact (spv_at l i hi).1
  ·rw [World.ownsRow.cellAt h' (i * 2 + 1) (by omega)]; exact (spv_at l i hi).2
theorem OwnSp.nil (w : World) (base : Nat) : OwnSp w base (.slice none 0 0) [] := World.ownsRow_nil _ _ _ _
theorem OwnSp.lt {w : World} {base : Nat} {v : Value} {l : List Sp} (h : OwnSp w base v l) : ∀ k, v.ownBlock = some k → base ≤ k ∧ k < w.heap.size := World.ownsRow.lt h
theorem OwnSp.kept {w w1 : World} {base : Nat} {v : Value} {l : List Sp} {row : Option Nat} (h : OwnSp w base v l) (hg : w.grownBy w1 row) (hne : v.ownBlock = none ∨ v.ownBlock ≠ row) : OwnSp w1 base v l := World.ownsRow.kept h hg hne
theorem app1 {w : World} {base g : Nat} {v : Value} {l : List Sp} {s : Sp} (hown : OwnSp w base v l) (hx : C2 w g (.int .i64 s.1) (.int .i64 s.2)) (hb : base ≤ w.heap.size) (hsm : l.length ≤ 1000000) :
 ∃ v' w', (Builtin.append_ #[40, 40] 40 #[v, .slice (some ⟨g, 0, none⟩) 1 1]).run Tryz.prog w = .ok v' w' ∧ OwnSp w' base v' (l ++ [s]) ∧ w.grownBy w' v.ownBlock ∧ (v'.ownBlock = v.ownBlock ∨ v'.ownBlock = some w.heap.size) := by
 obtain ⟨i0, hi, hz0, hz1, hz2⟩ := info_parts infoSp
 obtain ⟨v', w', hrun, h1, h2, _, h4⟩ := run_append_own_at (P := Tryz.prog) w base 40 40 51 i0 (.agg #[.int .i64 0, .int .i64 0]) 2 16 Tryz.underlying40 hi hz0 hz1 hz2 rfl (by decide) v l.length (spv l) hown ⟨g, 0, none⟩ 1 1 (spv [s]) rfl
  (fun j u hj => by
    match j, hj with
    | 0, hj => simp only [spv, List.getElem?_cons_zero] at hj; rw [← hj]; simpa [Addr.add] using hx.1
    | 1, hj => simp only [spv, List.getElem?_cons_succ, List.getElem?_cons_zero] at hj; rw [← hj]; simpa [Addr.add] using hx.2
    | j + 2, hj => simp [spv] at hj) (spv_one [s]) (by unfold maxLen; omega) (by omega) hb
 refine ⟨v', w', hrun, ?_, h2, h4⟩
 unfold OwnSp
 rw [List.length_append, spv_app]
 exact h1
end Go.Proofs.YtkdhdibjbabgfaaGreatDoor
end
section
namespace Go.Proofs.YtkdhdibjbabgfaaGreatDoor
open Go.RowKit Go.ChangeShapes Go.WideShapes Go.Deep Go.Shelf
attribute [local go_sem] Oper.semAt_some
abbrev Bv := Int × Ex
def bk (L : List Ex) (k : Nat) : List Bv := ((List.range' k (L.length - k)).map fun i : Nat => ((i : Int), L.getD i default)).reverse
theorem bk_nil (L : List Ex) : bk L L.length = [] := by unfold bk; simp
theorem bk_succ (L : List Ex) (k : Nat) (h : k < L.length) : bk L k = bk L (k + 1) ++ [((k : Int), L.getD k default)] := by
 unfold bk
 rw [show L.length - k = (L.length - (k + 1)) + 1 from by omega, List.range'_succ, List.map_cons, List.reverse_cons]
theorem bk_pre (L : List Ex) : ∀ k, k ≤ L.length → bk L k <+: bk L 0
 | 0, _ => List.prefix_refl _
 | k + 1, h => List.IsPrefix.trans (l₂ := bk L k) ⟨_, (bk_succ L k (by omega)).symm⟩ (bk_pre L k (by omega))
theorem bk_len (L : List Ex) (k : Nat) : (bk L k).length = L.length - k := by unfold bk; simp
structure Mb {α : Type} (n₀ Bo Bs : Nat) (t : TypeId) (u : Value) (W : World) (J : List α → World → Prop) (pre : List α) (w : World) : Prop where
 B : Below n₀ W w
 j : J pre w
 J : ∀ W1 W2, J pre W1 → Below W1.heap.size W1 W2 → J pre W2
 n : n₀ ≤ W.heap.size
 o : Bo < w.heap.size
 lt : OwnLt w Bo
 s : Boxed w Bs t u
 ne : Bs ≠ Bo
 no : ¬ OwnAt w Bo Bs
theorem Mb.keep {α : Type} {n₀ Bo Bs : Nat} {t : TypeId} {u : Value} {W w w1 : World} {J : List α → World → Prop} {pre : List α} (h : Mb n₀ Bo Bs t u W J pre w) (hb : Below w.heap.size w w1) : Mb n₀ Bo Bs t u W J pre w1 :=
 ⟨h.B.trans (hb.mono (Nat.le_trans h.n h.B.size)), h.J _ _ h.j hb, h.J, h.n, Nat.lt_of_lt_of_le h.o hb.size, fun b q => Nat.lt_of_lt_of_le (h.lt b ((ownAt_keep hb h.o).1 q)) hb.size, bx_keep h.s hb, h.ne, fun q => h.no ((ownAt_keep hb h.o).1 q)⟩
theorem Mb.kp {α : Type} {n₀ Bo Bs : Nat} {t : TypeId} {u : Value} {W w w1 : World} {J : List α → World → Prop} {pre pre' : List α} (h : Mb n₀ Bo Bs t u W J pre w) (hk : Kp n₀ Bo w w1) (hj : J pre' w1) (hJ : ∀ W1 W2, J pre' W1 → Below W1.heap.size W1 W2 → J pre' W2) : Mb n₀ Bo Bs t u W J pre' w1 :=
 ⟨h.B.trans hk.1, hj, hJ, h.n, Nat.lt_of_lt_of_le h.o hk.1.size, hk.2.2.2 h.lt, bx_kp h.s hk h.ne h.no, h.ne, fun q => h.no (hk.2.2.1 Bs h.s.lt q)⟩
theorem abides_below2 {α : Type} {J : List α → World → Prop} {B : Nat} (h : AbidesFrom B J) : ∀ pre W1 W2, J pre W1 → Below W1.heap.size W1 W2 → J pre W2 := fun pre W1 W2 hj hb =>
 h pre W1 W2 none hj ⟨hb.os, hb.tape, hb.output, hb.size, fun k hk _ => hb.block k hk⟩ (fun r e => by cases e)
theorem bwd1_in (n : Nat) (hn : 1 ≤ n) (l Bo Bl n₀ N cap : Nat) (A : Option Addr) (L : List Ex) (hlen : L.length = N) (hsl : ∀ x ∈ L, ∃ A n c, x.2.1 = .slice A n c) (hN : N ≤ 1000) (J Jx : List Bv → World → Prop)
 (hJ : ∀ pre W1 W2, J pre W1 → Below W1.heap.size W1 W2 → J pre W2)
 (hY : ∀ pre (y : Bv) W, J pre W → y.2 ∈ L → pre.length < N → YieldAt Fence.wide (n - 1) Tryz.prog l #[.int .i64 y.1, .agg #[.int .i64 y.2.1, y.2.2.1]] W fun e W' =>
   (e = .returned (.bool true) ∧ J (pre ++ [y]) W' ∧ Kp n₀ Bo W W') ∨ (e = .returned (.bool false) ∧ Jx (pre ++ [y]) W'))
 (W : World) (hBo : Bo < W.heap.size) (hOl : OwnLt W Bo) (hBl : Boxed W Bl 60 (.slice A N cap)) (hne : Bl ≠ Bo) (hno : ¬ OwnAt W Bo Bl) (hn₀ : n₀ ≤ W.heap.size)
 (hC : ∀ w1, Below n₀ W w1 → EL 2 eS w1 (.slice A N cap) L) (h0 : J [] W) :
 CallsIn Fence.wide n Tryz.prog 125 #[.func (.yield l) #[] #[], .pointer (some ⟨Bl, 0, none⟩)] W fun e W' => (∃ v, e = .returned v) ∧
  ((∃ ys, ys = bk L 0 ∧ J ys W') ∨ (∃ pre, pre <+: bk L 0 ∧ Jx pre W')) := by
 have hmk : Mb n₀ Bo Bl 60 (.slice A N cap) W J [] W := ⟨Below.refl _ _, h0, hJ [], hn₀, hBo, hOl, hBl, hne, hno⟩
 have hb0 : bk L N = [] := by rw [← hlen]; exact bk_nil L
 rw [← hb0] at hmk
 have hbs := lh (fun k (hk : k < N) => bk_succ L k (by omega))
 have hbp := lh (fun k (hk : k ≤ N) => bk_pre L k (by omega))
 have hbl := lh (fun k => bk_len L k)
 have hmem := lh (fun k (hk : k < N) => show L.getD k default ∈ L from by rw [List.getD_eq_getElem?_getD, List.getElem?_eq_getElem (by omega)]; exact List.getElem_mem _)
 have hcell := lh (fun w1 k (hb : Below n₀ W w1) (hk : k < N) => by
  obtain ⟨A', cap', e, h⟩ := EL.form (hC w1 hb) hlen
  obtain ⟨g, off, e2, h2, h3, h4, h5⟩ := h w1 k (Below.refl _ _) hk
  exact (show ∃ g off, A = some ⟨g, off, none⟩ ∧ N ≤ cap ∧ g < w1.heap.size ∧ w1.cell? ⟨g, off + k * 2, none⟩ = some (.int .i64 (L.getD k default).1) ∧ w1.cell? ⟨g, off + k * 2 + 1, none⟩ = some (slV (L.getD k default).2.1) from by
   cases e
   exact ⟨g, off, e2, h2, h4, h5 0 (by decide), h5 1 (by decide)⟩))
 replace hJ := lh hJ
 replace hY := lh hY
 replace hsl := lh hsl
 have hc0 := hBl.cell
 replace hlen := lh hlen
 clear h0 hC hb0
 refine callsIn_of_wp Tryz.func125 rfl trivial ?_ rfl
 simp only [Tryz.ntmps125, List.size_toArray, List.length_cons, List.length_nil, Nat.reduceAdd, Nat.reduceSub, Array.replicate_succ, Array.replicate_zero, List.push_toArray, List.append_toArray, List.nil_append, List.cons_append]
 gi_wp2
 gi_loopw [3] (fun x wr => ∃ k : Nat, k ≤ N ∧ x = .int .i64 ((k : Int) - 1) ∧ Mb n₀ Bo Bl 60 (.slice A N cap) W J (bk L k) wr)
  (fun x wr => (intOf x + 1).toNat)
 case atStart =>
  exact ⟨N, Nat.le_refl _, by go_num, hmk⟩
 case round =>
  obtain ⟨k, hk, rfl, hmr⟩ := hrel
  clear hmk hBl hOl hno
  cases k with
  | succ k =>
    have e1 : ((k + 1 : Nat) : Int) - 1 = (k : Int) := by omega
    rw [e1]
    obtain ⟨g, off, rfl, hcap, hg, c0, c1⟩ := hcell.out wr k hmr.B (by omega)
    have hm := hmem.out k (by omega)
    obtain ⟨A5, n5, c5, h5⟩ := hsl.out _ hm
    have hadd := lh (hbs.out k (by omega))
    have hpx := lh (hbp.out k (by omega))
    have hpl : (bk L (k + 1)).length < N := by rw [hbl.out, hlen.out]; omega
    generalize L.getD k default = x at *
    obtain ⟨xa, xv, xl⟩ := x
    simp only [] at h5
    subst h5
    simp only [slV] at c1
    have s0 := hmr.s.cell
    have k1 : (k : Int) < (N : Int) := by omega
    have k2 : (0 : Int) ≤ (k : Int) := by omega
    obtain ⟨fn, tmps, assign, body, hy, hR⟩ := hY.out (bk L (k + 1)) ((k : Int), (xa, .slice A5 n5 c5, xl)) _ hmr.j hm hpl
    dsimp only at hy
    clear hm hpl e1 hc0
    gi_wp2
    refine hR.mono ?_
    rintro e W3 (⟨rfl, hJ3, hk3⟩ | ⟨rfl, hJx3⟩)
    ·rw [← hadd.out] at hJ3
     have hM3 := hmr.kp hk3 hJ3 (hJ.out _)
     clear hmr s0 c0 c1 hk3 hJ3 hy hR
     gi_wp2
     go_roundw
     case rel => exact ⟨k, by omega, by go_num, hM3⟩
     case measure => first | (simp [intOf]; done) | (simp [intOf]; omega)
    ·gi_wp2
     refine bodyPost_ret (results_none rfl _ _ _) rfl ?_
     exact ⟨⟨_, rfl⟩, .inr ⟨_, by rw [← hadd.out]; exact hpx.out, hJx3⟩⟩
  | zero =>
    have e1 : ((0 : Nat) : Int) - 1 = -1 := by omega
    rw [e1]
    gi_wp2
    go_end0
    exact ⟨⟨_, rfl⟩, .inl ⟨_, rfl, hmr.j⟩⟩
theorem backward_in (n : Nat) (A : Option Addr) (N cap : Nat) (w : World) :
 CallsIn Fence.wide n Tryz.prog 101 #[.slice A N cap] w fun e w' => e = .returned (.func (.func 125) #[] #[.pointer (some ⟨w.heap.size, 0, none⟩)]) ∧ w.alloc (.cells #[.slice A N cap] 60) = w' := by
 refine callsIn_wide.2 ?_
 go_enter Tryz.func101, Tryz.ntmps101
 go_wp2
 go_ret
 exact ⟨rfl, rfl⟩
theorem bwd_told (n : Nat) (hn : 1 ≤ n) (Bo Bl n₀ N cap : Nat) (A : Option Addr) (L : List Ex) (hlen : L.length = N) (hsl : ∀ x ∈ L, ∃ A n c, x.2.1 = .slice A n c) (hN : N ≤ 1000)
 (w : World) (hBo : Bo < w.heap.size) (hOl : OwnLt w Bo) (hBl : Boxed w Bl 60 (.slice A N cap)) (hne : Bl ≠ Bo) (hno : ¬ OwnAt w Bo Bl) (hn₀ : n₀ ≤ w.heap.size)
 (hC : ∀ w1, Below n₀ w w1 → EL 2 eS w1 (.slice A N cap) L) :
 SeqTold Fence.wide n Tryz.prog 125 #[.pointer (some ⟨Bl, 0, none⟩)] (fun y : Bv => #[.int .i64 y.1, .agg #[.int .i64 y.2.1, y.2.2.1]]) (Kp n₀ Bo) (fun y _ => y.2 ∈ L) (fun ys => ys = bk L 0) (fun pre => pre <+: bk L 0) N w := fun l J Jx W hb hJ _ hY h0 =>
 bwd1_in n hn l Bo Bl n₀ N cap A L hlen hsl hN J Jx (abides_below2 hJ) hY W (Nat.lt_of_lt_of_le hBo hb.size) (fun b q => Nat.lt_of_lt_of_le (hOl b ((ownAt_keep hb hBo).1 q)) hb.size) (bx_keep hBl hb) hne (fun q => hno ((ownAt_keep hb hBo).1 q)) (Nat.le_trans hn₀ hb.size) (fun w1 hb1 => hC w1 ((hb.mono hn₀).trans hb1)) h0
end Go.Proofs.YtkdhdibjbabgfaaGreatDoor
end
section
namespace Go.Proofs.YtkdhdibjbabgfaaGreatDoor
open Go.RowKit Go.ChangeShapes Go.WideShapes Go.Deep Go.Shelf
attribute [local go_sem] Oper.semAt_some
theorem OwnU.walk {w w1 : World} {base : Nat} {v : Value} {l : List Nat} {row : Option Nat} (h : OwnU w base v l) (hg : w.grownBy w1 row) (hr : ∀ r, row = some r → ∃ o : Obj, w.heap[r]? = some o ∧ o.isCells = false) : OwnU w1 base v l := by
 refine World.ownsRow.kept h hg ?_
 rcases h.2 with ⟨rfl, _⟩ | ⟨g, cap, cur, rfl, _, hgb, _⟩
 ·exact .inl rfl
 ·refine .inr fun e' => ?_
  obtain ⟨o, ho, hc⟩ := hr g (by simpa [Value.ownBlock] using e'.symm)
  rw [hgb] at ho; cases ho; cases hc
theorem OwnU.row {w : World} {base g n c : Nat} {l : List Nat} (h : OwnU w base (.slice (some ⟨g, 0, none⟩) n c) l) : base ≤ g ∧ ∃ cur, w.heap[g]? = some (.cells cur 25 (0, 0)) := by
 rcases h.2 with ⟨hv, _⟩ | ⟨g', cap, cur, hv, hb, hg, _⟩
 ·cases hv
 ·cases hv; exact ⟨hb, cur, hg⟩
end Go.Proofs.YtkdhdibjbabgfaaGreatDoor
end
