/-
  Part of the proof of MendLanes.
-/
import Derived.Test.YtkdhdibjbabgfaaGreatDoorVl2
import Derived.Test.YtkdhdibjbabgfaaGreatDoorVl5
import Derived.Test.YtkdhdibjbabgfaaGreatDoorVl6
import Derived.Laws.CopyOwn
import Derived.Lib.AppendZerosOnto
import Derived.Lib.SliceRun
import Derived.Deep.RegionHeld3
import Derived.Laws.EntriesVeiled
import Derived.OwnWalkIn
import Derived.Test.YtkdhdibjbabgfaaGreatDoorVl0
set_option maxRecDepth 10000
set_option maxHeartbeats 1000000
set_option linter.unusedVariables false
set_option linter.unusedSimpArgs false
section
namespace Go.Proofs.YtkdhdibjbabgfaaGreatDoor
open Go.RowKit Go.ChangeShapes Go.WideShapes Go.Deep
def KL (K : IntKind) (w : World) (v : Value) (l : List Nat) : Prop :=
 ∃ A cap, v = .slice A l.length cap ∧ (0 < l.length → ∃ g off, A = some ⟨g, off, none⟩ ∧ g < w.heap.size ∧ l.length ≤ cap ∧ ∀ i, i < l.length → w.cell? ⟨g, off + i, none⟩ = some (.int K (l.getD i 0 : Nat)))
theorem KL.keep {K : IntKind} {w w1 : World} {v : Value} {l : List Nat} (h : KL K w v l) (hb : Below w.heap.size w w1) : KL K w1 v l := by
 obtain ⟨A, cap, hv, h⟩ := h
 refine ⟨A, cap, hv, fun hl => ?_⟩
 obtain ⟨g, off, hA, hg, hc, hi⟩ := h hl
 exact ⟨g, off, hA, Nat.lt_of_lt_of_le hg hb.size, hc, fun i h => by rw [(bcell hb).1 _ _ hg]; exact hi i h⟩
theorem KL.form {K : IntKind} {w : World} {v : Value} {l : List Nat} {n : Nat} (h : KL K w v l) (hn : l.length = n) : ∃ A cap, v = .slice A n cap ∧
 ∀ w1 i, Below w.heap.size w w1 → i < n → ∃ g off, A = some ⟨g, off, none⟩ ∧ n ≤ cap ∧ g < w1.heap.size ∧ w1.cell? ⟨g, off + i, none⟩ = some (.int K (l.getD i 0 : Nat)) := by
 obtain ⟨A, cap, hv, h⟩ := h
 refine ⟨A, cap, by rw [hv, hn], fun w1 i hb hi => ?_⟩
 obtain ⟨g, off, hA, hg, hc, hcell⟩ := h (by omega)
 refine ⟨g, off, hA, by omega, Nat.lt_of_lt_of_le hg hb.size, ?_⟩
 rw [(bcell hb).1 _ _ hg]; exact hcell i (by omega)
theorem words_any (v u : Value) (l m : List Nat) (w : World) (hlen : l.length ≤ 1000000) (hv : KL .u64 w v l) (hu : KL .u64 w u m) :
 Calls Tryz.prog 21 #[v, u] w fun e w' => e = .returned (.bool (decide (l = m))) ∧ Below w.heap.size w w' := by
 obtain ⟨n, hn⟩ : ∃ n, l.length = n := ⟨_, rfl⟩
 obtain ⟨n2, hn2⟩ : ∃ n, m.length = n := ⟨_, rfl⟩
 obtain ⟨A, cap, rfl, hC⟩ := hv.form hn
 obtain ⟨A2, cap2, rfl, hC2⟩ := hu.form hn2
 have hne := lh (fun (h : ¬ l = m) => show decide (l = m) = false from decide_eq_false h)
 by_cases hnn : n = n2
 ·subst hnn
  have hyes := lh (fun (h : ∀ j, j < n → l.getD j 0 = m.getD j 0) => show decide (l = m) = true from by
   refine decide_eq_true ?_
   apply List.ext_getElem (by omega)
   intro i h1 h2
   have := h i (by omega)
   rwa [List.getD_eq_getElem?_getD, List.getD_eq_getElem?_getD, List.getElem?_eq_getElem h1, List.getElem?_eq_getElem h2] at this)
  replace hC := lh hC
  replace hC2 := lh hC2
  have hlen' : n ≤ 1000000 := by omega
  clear hlen
  replace hn := lh hn
  replace hn2 := lh hn2
  go_enter Tryz.func21, Tryz.ntmps21
  go_wp2_with fail
  go_loopw [5] (fun i wr => ∃ k : Nat, k ≤ n ∧ i = .int .i64 k ∧ Hid (∀ j, j < k → l.getD j 0 = m.getD j 0) ∧ Below w.heap.size w wr) (fun i _ => n + 1 - (intOf i).toNat)
  case atStart => exact ⟨0, Nat.zero_le _, rfl, (fun j hj => by omega), Below.refl _ _⟩
  case round =>
   obtain ⟨k, hk, rfl, hF, hB⟩ := hrel
   by_cases hlt : k < n
   ·obtain ⟨g, off, rfl, hcap, hg, c0⟩ := hC.out wr k hB hlt
    obtain ⟨g2, off2, rfl, hcap2, hg2, d0⟩ := hC2.out wr k hB hlt
    have hlt' : (k : Int) < (n : Int) := by omega
    have hF2 := lh (fun (h : l.getD k 0 = m.getD k 0) j (hj : j < k + 1) => show l.getD j 0 = m.getD j 0 from by
     by_cases e : j = k
     ·subst e; exact h
     ·exact hF.out j (by omega))
    have hF3 := lh (fun (h : ¬ l.getD k 0 = m.getD k 0) => show decide (l = m) = false from decide_eq_false (fun q => h (by rw [q])))
    generalize l.getD k 0 = a at *
    generalize m.getD k 0 = c at *
    by_cases hac : a = c
    ·subst hac
     have hR := lh (hF2.out rfl)
     go_wp2_with fail
     go_region
     all_goals (try go_wp2_with fail)
     go_roundw
     case rel => exact ⟨k + 1, by omega, by go_num, hR, hB.drew⟩
     case measure => simp [intOf]; omega
    ·have hR := lh (hF3.out hac)
     have f1 : ((a : Int) == (c : Int)) = false := by rw [beq_eq_false_iff_ne]; omega
     have f2 : ((a : Int) != (c : Int)) = true := by rw [bne_iff_ne]; omega
     go_wp2_with fail
     go_region
     all_goals (try go_wp2_with fail)
     all_goals
      go_ret
      exact ⟨by rw [hR.out]; rfl, hB.drew⟩
   ·obtain rfl : k = n := by omega
    have hR := lh (hyes.out hF.out)
    go_wp2_with fail
    go_ret
    exact ⟨by rw [hR.out]; rfl, hB⟩
 ·have hR := lh (hne.out (fun h => hnn (by rw [← hn, ← hn2, h])))
  have f1 : ((n : Int) != (n2 : Int)) = true := by rw [bne_iff_ne]; omega
  clear hn hn2 hv hu hC hC2 hnn
  go_enter Tryz.func21, Tryz.ntmps21
  go_wp2_with fail
  go_ret
  exact ⟨by rw [hR.out]; rfl, Below.refl _ _⟩
theorem cell_new1 (W : World) (v : Value) (t : TypeId) : (W.alloc (.cells #[v] t)).cell? ⟨W.heap.size, 0, none⟩ = some v := by simp [go_sem]
theorem appU {w : World} {base g k y : Nat} {v : Value} {xs : List Value} (hown : w.ownsRow base 25 1 v k xs) (hx : w.cell? ⟨g, 0, none⟩ = some (.int .u64 y)) (hb : base ≤ w.heap.size) (hsm : k ≤ 1000000) :
 ∃ v' w', (Builtin.append_ #[23, 23] 23 #[v, .slice (some ⟨g, 0, none⟩) 1 1]).run Tryz.prog w = .ok v' w' ∧ w'.ownsRow base 25 1 v' (k + 1) (xs ++ [.int .u64 y]) ∧ w.grownBy w' v.ownBlock ∧ (v'.ownBlock = v.ownBlock ∨ v'.ownBlock = some w.heap.size) := by
 obtain ⟨i0, hi, hz0, hz1, hz2⟩ := info_parts infoU64
 obtain ⟨v', w', hrun, h1, h2, _, h4⟩ := run_append_own_at (P := Tryz.prog) w base 23 23 25 i0 (.int .u64 0) 1 8 Tryz.underlying23 hi hz0 hz1 hz2 rfl (by decide) v k xs hown ⟨g, 0, none⟩ 1 1 [.int .u64 y] rfl
  (fun j u hj => by
    match j, hj with
    | 0, hj => simp only [List.getElem?_cons_zero] at hj; rw [← hj]; simpa [Addr.add] using hx
    | j + 1, hj => simp at hj) (by simp [Value.oneCell']) (by unfold maxLen; omega) (by omega) hb
 exact ⟨v', w', hrun, h1, h2, h4⟩
def OwnU (w : World) (base : Nat) (v : Value) (l : List Nat) : Prop := w.ownsRow base 25 1 v l.length (l.map fun x : Nat => Value.int .u64 x)
theorem OwnU.kl {w : World} {base : Nat} {v : Value} {l : List Nat} (h : OwnU w base v l) : KL .u64 w v l := by
 have h' := h
 rcases h.2 with ⟨hv, hn⟩ | ⟨g, cap, cur, hv, hb, hg, h1, h2, h3, h4⟩
 ·have : l = [] := by simpa using hn
  subst this
  exact ⟨none, 0, hv, fun h => by simp at h⟩
 ·subst hv
  refine ⟨some ⟨g, 0, none⟩, cap, rfl, fun _ => ⟨g, 0, rfl, (Array.getElem?_eq_some_iff.1 hg).1, h1, fun i hi => ?_⟩⟩
  rw [Nat.zero_add]
  rw [World.ownsRow.cellAt h' i (by omega)]
  simp [List.getD_eq_getElem?_getD, List.getElem?_eq_getElem hi]
theorem OwnU.mono {w : World} {base b2 : Nat} {v : Value} {l : List Nat} (h : OwnU w base v l) (hb : b2 ≤ base) : OwnU w b2 v l := by
 refine ⟨h.1, ?_⟩
 rcases h.2 with h2 | ⟨g, cap, cur, hv, hbg, hg, h1, h2, h3, h4⟩
 ·exact .inl h2
 ·exact .inr ⟨g, cap, cur, hv, by omega, hg, h1, h2, h3, h4⟩
theorem OwnU.keep {w w1 : World} {base : Nat} {v : Value} {l : List Nat} (h : OwnU w base v l) (hb : Below w.heap.size w w1) : OwnU w1 base v l := by
 refine ⟨h.1, ?_⟩
 rcases h.2 with h2 | ⟨g, cap, cur, hv, hbg, hg, h1, h2, h3, h4⟩
 ·exact .inl h2
 ·exact .inr ⟨g, cap, cur, hv, hbg, by rw [hb.block g (Array.getElem?_eq_some_iff.1 hg).1]; exact hg, h1, h2, h3, h4⟩
theorem KL.lit (w : World) (l : List Nat) (hl : l.length ≤ 1000) : KL .u64 (w.alloc (.cells (l.map fun x : Nat => Value.int .u64 x).toArray (25 : Nat))) (.slice (some ⟨w.heap.size, 0, none⟩) l.length l.length) l := by
 have := World.ownsRow_lit (base := w.heap.size) (e := 25) (size := 1) w (l.map fun x : Nat => Value.int .u64 x).toArray l.length (Nat.le_refl _) (by unfold maxLen; omega) (by simp)
 exact OwnU.kl (base := w.heap.size) (by simpa [OwnU] using this)
theorem appW {w : World} {base : Nat} {v u : Value} {l m : List Nat} (hown : OwnU w base v l) (ha : KL .u64 w u m) (hb : base ≤ w.heap.size) (hsm : l.length ≤ 1000000) (hsm2 : m.length ≤ 1000000) :
 ∃ v' w', (Builtin.append_ #[23, 23] 23 #[v, u]).run Tryz.prog w = .ok v' w' ∧ OwnU w' base v' (l ++ m) ∧ Below base w w' := by
 obtain ⟨i0, hi, hz0, hz1, hz2⟩ := info_parts infoU64
 have ht : Tryz.prog.underlying 23 = some (.slice 25) := Tryz.underlying23
 obtain ⟨A, cap, rfl, h⟩ := ha
 cases m with
 | nil =>
   refine ⟨v, w, ?_, by simpa using hown, Below.refl _ _⟩
   rcases hown.2 with ⟨rfl, _⟩ | ⟨g, cap', cur, rfl, _, _, hnc, _⟩
   ·cases A <;> simp [Builtin.append_, run_underlying ht, sizeOf, typeInfo, hi, Builtin.lenOf, Builtin.firstCells, loadCells, loadCellsFrom, storeCells]
   ·cases A <;> simp [Builtin.append_, run_underlying ht, sizeOf, typeInfo, hi, Builtin.lenOf, Builtin.firstCells, hnc, loadCells, loadCellsFrom, storeCells]
 | cons x m =>
   obtain ⟨g, off, rfl, hg, hc, hcell⟩ := h (by simp)
   obtain ⟨v', w', hrun, k1, k2, _, k4⟩ := run_append_own_at (P := Tryz.prog) w base 23 23 25 i0 (.int .u64 0) 1 8 Tryz.underlying23 hi hz0 hz1 hz2 rfl (by decide) v l.length _ hown ⟨g, off, none⟩ (x :: m).length cap ((x :: m).map fun x : Nat => Value.int .u64 x) (by simp)
    (fun j u hj => by
      have hj2 : j < (x :: m).length := by have := (List.getElem?_eq_some_iff.1 hj).1; simpa using this
      have c0 := hcell j hj2
      rw [List.getElem?_map, List.getElem?_eq_getElem hj2] at hj
      rw [List.getD_eq_getElem?_getD, List.getElem?_eq_getElem hj2] at c0
      simp only [Option.map_some, Option.some.injEq] at hj
      rw [← hj]
      rw [add_plain]; exact c0) (by intro u hu; obtain ⟨y, _, rfl⟩ := List.mem_map.1 hu; rfl) (by unfold maxLen; omega) (by omega) hb
   refine ⟨v', w', hrun, ?_, (Below.refl base w).grown k2 hb (fun j hj => (World.ownsRow.lt hown j hj).1)⟩
   unfold OwnU
   rw [List.length_append, List.map_append]
   exact k1
theorem newW {w : World} {u : Value} {l : List Nat} (h1 : KL .u64 w u l) (l1 : l.length ≤ 100000) :
 ∃ v1 w1, (Builtin.append_ #[23, 23] 23 #[.slice (some ⟨w.heap.size, 0, none⟩) 0 0, u]).run Tryz.prog (w.alloc (.cells #[] (25 : Nat))) = .ok v1 w1 ∧ OwnU w1 w.heap.size v1 l ∧ Below w.heap.size w w1 := by
 have hO : OwnU (w.alloc (.cells #[] (25 : Nat))) w.heap.size (.slice (some ⟨w.heap.size, 0, none⟩) 0 0) [] := World.ownsRow_lit (base := w.heap.size) (e := 25) (size := 1) w #[] 0 (Nat.le_refl _) (by unfold maxLen; omega) rfl
 have hB : Below w.heap.size w (w.alloc (.cells #[] (25 : Nat))) := bZ _ _
 obtain ⟨v1, w1, r1, o1, b1⟩ := appW hO (h1.keep hB) hB.size (by simp) (by omega)
 exact ⟨v1, w1, r1, by simpa using o1, hB.trans b1⟩
theorem clone_any (v : Value) (l : List Nat) (w : World) (hlen : l.length ≤ 100000) (hv : KL .u64 w v l) :
 Calls Tryz.prog 82 #[v] w fun e w' => ∃ v', e = .returned v' ∧ OwnU w' w.heap.size v' l ∧ Below w.heap.size w w' := by
 obtain ⟨v1, w1, hrun, ho, hb⟩ := newW hv hlen
 obtain ⟨A, cap, rfl, h⟩ := hv
 cases A with
 | none =>
   have hl0 : l = [] := by
    cases l with
    | nil => rfl
    | cons x l => obtain ⟨g, off, h0, _⟩ := h (by simp); cases h0
   subst hl0
   clear h hrun ho hb
   have qT : ∀ (w : World) (a : Option Addr) (n c n' c' : Nat), (binOp .eql 23 (.slice a n c) (.slice none n' c')).run Tryz.prog w = .ok (.bool a.isNone) w := fun w a n c n' c' => Lib.run_eql_slice_nil w _ _ a n c n' c' Tryz.underlying23
   go_enter Tryz.func82, Tryz.ntmps82
   go_wp2_with fail
   go_ret
   exact ⟨_, rfl, World.ownsRow_nil _ _ _ _, Below.refl _ _⟩
 | some a =>
   obtain ⟨g, off, s⟩ := a
   generalize l.length = n at *
   clear h
   have qT : ∀ (w : World) (a : Option Addr) (n c n' c' : Nat), (binOp .eql 23 (.slice a n c) (.slice none n' c')).run Tryz.prog w = .ok (.bool a.isNone) w := fun w a n c n' c' => Lib.run_eql_slice_nil w _ _ a n c n' c' Tryz.underlying23
   go_enter Tryz.func82, Tryz.ntmps82
   go_wp2_with (at_builtin; refine wpList_append_run rfl _ _ 23 rfl _ _ _ rfl rfl hrun ?_)
   go_ret
   exact ⟨_, rfl, ho, hb⟩
theorem KL.take {K : IntKind} {w : World} {A : Option Addr} {n cap : Nat} {l : List Nat} (h : KL K w (.slice A n cap) l) (t : Nat) (ht : t ≤ l.length) : KL K w (.slice A t cap) (l.take t) := by
 obtain ⟨A', cap', hv, h⟩ := h
 cases hv
 refine ⟨A, cap, by rw [List.length_take, Nat.min_eq_left ht], fun hl => ?_⟩
 rw [List.length_take, Nat.min_eq_left ht] at hl
 obtain ⟨g, off, hA, hg, hc, hi⟩ := h (by omega)
 refine ⟨g, off, hA, hg, by rw [List.length_take]; omega, fun i h => ?_⟩
 rw [List.length_take] at h
 rw [hi i (by omega), List.getD_eq_getElem?_getD, List.getD_eq_getElem?_getD, List.getElem?_take_of_lt (by omega)]
theorem run_slice_to {P : Program} {ty e : TypeId} {i0 : TypeInfo} (hu : P.underlying ty = some (.slice e)) (hi : P.info? e = some i0) (A : Option Addr) (n cap t : Nat) (h : t ≤ cap) (w : World) :
 (Instr.slice ty (.slice A n cap) none (some (.int .i64 (t : Int))) none).run P w = .ok (.slice A t cap) w := by
 have h1 : (t : Int) ≤ (cap : Int) := by omega
 have h2 : (0 : Int) ≤ (t : Int) := by omega
 simp [Instr.slice, run_underlying hu, Instr.sliceBounds, Instr.sliceBound, asIntOf, sizeOf, typeInfo, hi, h2, go_sem]
 exact fun h' => by omega
theorem wordsK_open {H : Type} {enc : TypeId × Value → H} {P : Program} {W : World} {t e : TypeId} (ht : P.underlying t = some (.slice e)) (he : P.underlying e = some (.int .u64)) (hc : P.cellsOf e = 1) {ad : Option Addr} {len cap : Nat} {d : DataW H} {p : List MemPlace}
 (h : DataW.Trod enc P W 0 (fun _ => true) true t (.slice ad len cap) d p) : ∃ l : List Nat, WL l ∧ KL .u64 W (.slice ad len cap) l := by
 obtain ⟨fuel, hf⟩ := h
 rcases open_ints ht he hc hf with ⟨hcs, _⟩ | ⟨a, len', cap', zs, hcs, _, hl, hm, hz, _, hcell, hwz⟩
 ·simp [Value.cells] at hcs
  obtain ⟨rfl, rfl, rfl⟩ := hcs
  exact ⟨[], fun x hx => by simp at hx, none, 0, rfl, fun h => by simp at h⟩
 ·simp [Value.cells] at hcs
  obtain ⟨rfl, rfl, rfl⟩ := hcs
  simp only [if_true] at hz
  have hb : ∀ z ∈ zs, 0 ≤ z ∧ z ≤ 18446744073709551615 := fun z hz => bounds_u64 (hwz z hz)
  have hlen : ((zs.take len).map Int.toNat).length = len := by simp; omega
  refine ⟨(zs.take len).map Int.toNat, fun x hx => ?_, some a, cap, by rw [hlen], fun h0 => ?_⟩
  ·obtain ⟨z, hz1, rfl⟩ := List.mem_map.1 hx
   have := hb z (List.mem_of_mem_take hz1)
   omega
  ·rw [hlen] at h0 ⊢
   have hc0 := hcell 0 (by omega)
   have hsp : a.spot = none := by
    have := spot_none hc0
    unfold Addr.add at this
    simpa using this
   obtain ⟨g, off, sp⟩ := a
   simp only at hsp
   subst hsp
   refine ⟨g, off, rfl, ?_, by omega, fun i hil => ?_⟩
   ·have := World.block_lt_of_cell? _ _ hc0
    simpa [add_plain] using this
   ·have := hcell i (by omega)
    rw [add_plain] at this
    rw [this]
    have hzi : i < zs.length := by omega
    have e1 : ((zs.take len).map Int.toNat).getD i 0 = (zs[i]).toNat := by
     rw [List.getD_eq_getElem?_getD, List.getElem?_map, List.getElem?_take, if_pos hil, List.getElem?_eq_getElem hzi]
     rfl
    have e2 : zs.getD i 0 = zs[i] := by rw [List.getD_eq_getElem?_getD, List.getElem?_eq_getElem hzi]; rfl
    rw [e1, e2, Int.toNat_of_nonneg (hb _ (List.getElem_mem hzi)).1]
end Go.Proofs.YtkdhdibjbabgfaaGreatDoor
end
section
namespace Go.Proofs.YtkdhdibjbabgfaaGreatDoor
open Go.RowKit Go.ChangeShapes Go.WideShapes Go.Deep
theorem KL.sl {w : World} {v : Value} {l : List Nat} (h : KL .u64 w v l) : SL w v l := by
 obtain ⟨A, cap, hv, h⟩ := h
 by_cases h0 : 0 < l.length
 ·obtain ⟨g, off, rfl, hg, hc, hi⟩ := h h0
  exact .inr ⟨g, off, cap, hv, hg, hc, hi⟩
 ·have : l = [] := List.eq_nil_of_length_eq_zero (by omega)
  subst this
  exact .inl ⟨rfl, A, cap, hv⟩
theorem SL.kl {w : World} {v : Value} {l : List Nat} (h : SL w v l) : KL .u64 w v l := by
 rcases h with ⟨rfl, A, cap, hv⟩ | ⟨g, off, cap, hv, hg, hc, hi⟩
 ·exact ⟨A, cap, hv, fun h => by simp at h⟩
 ·exact ⟨_, cap, hv, fun _ => ⟨g, off, rfl, hg, hc, hi⟩⟩
theorem OwnU.set {w : World} {base g cap n i y : Nat} {I : List Nat} (h : OwnU w base (.slice (some ⟨g, 0, none⟩) n cap) I) (hn : I.length = n) (hi : i < n) : OwnU (w.setCell ⟨g, i, none⟩ (.int .u64 (y : Nat))) base (.slice (some ⟨g, 0, none⟩) n cap) (I.set i y) := by
 unfold OwnU at h ⊢
 rw [hn] at h
 rw [List.length_set, hn, List.map_set]
 exact (World.ownsRow.stored h i _).1
theorem OwnU.cell {w : World} {base g cap n i : Nat} {I : List Nat} (h : OwnU w base (.slice (some ⟨g, 0, none⟩) n cap) I) (hn : I.length = n) (hi : i < n) : w.cell? ⟨g, i, none⟩ = some (.int .u64 (I.getD i 0 : Nat)) ∧ w.frozen? ⟨g, i, none⟩ = false := by
 unfold OwnU at h
 rw [hn] at h
 refine ⟨?_, h.frozenAt _⟩
 rw [World.ownsRow.cellAt h i (by omega), List.getElem?_map, List.getElem?_eq_getElem (by omega), List.getD_eq_getElem?_getD, List.getElem?_eq_getElem (by omega)]
 rfl
theorem OwnU.form {w : World} {base : Nat} {v : Value} {I : List Nat} (h : OwnU w base v I) : ∃ A cap, v = .slice A I.length cap ∧ (0 < I.length → ∃ g, A = some ⟨g, 0, none⟩ ∧ base ≤ g ∧ g < w.heap.size) := by
 rcases h.2 with ⟨h, h0⟩ | ⟨g, cap, cur, h, hb, hg, _⟩
 ·exact ⟨none, 0, by rw [h, h0], fun q => by omega⟩
 ·exact ⟨_, _, h, fun _ => ⟨g, rfl, hb, (Array.getElem?_eq_some_iff.1 hg).1⟩⟩
abbrev Ex := Int × Value × List Nat
def eE (x : Ex) : List Value := [.int .i64 x.1, x.2.1]
def eV (x : Ex) : Value := .agg (eE x).toArray
def canB (a m : Int) : Bool := decide (0 ≤ a) && decide (a < 65536) && decide (1 ≤ m) && decide (m ≤ 4096)
theorem canB_iff {a m : Int} : canB a m = true ↔ 0 ≤ a ∧ a < 65536 ∧ 1 ≤ m ∧ m ≤ 4096 := by
 unfold canB
 simp only [Bool.and_eq_true, decide_eq_true_eq, and_assoc]
def rightB (x : Ex) : Bool := canB x.1 x.2.2.length
def firstW (g a m : Nat) : Nat := a + 1048576 * m + 281474976710656 * (g % 65536)
def encW (g : Nat) (a : Nat) (l : List Nat) : List Nat := (firstW g a l.length :: l) ++ [moreN 0 (firstW g a l.length :: l)]
theorem can_any (a m : Int) (w : World) : Calls Tryz.prog 144 #[.int .i64 a, .int .i64 m] w fun e w' => e = .returned (.bool (canB a m)) ∧ w' = w := by
 unfold canB
 by_cases k1 : 0 ≤ a
 ·by_cases k2 : a < 65536
  ·by_cases k3 : 1 ≤ m
   ·by_cases k4 : m ≤ 4096
    ·rw [decide_eq_true k1, decide_eq_true k2, decide_eq_true k3, decide_eq_true k4]
     go_enter Tryz.func144, Tryz.ntmps144
     go_wp2_with fail
     go_ret
     exact ⟨ret_b (by simp; try omega), rfl⟩
    ·rw [decide_eq_true k1, decide_eq_true k2, decide_eq_true k3, decide_eq_false k4]
     replace k4 : 4096 < m := by omega
     go_enter Tryz.func144, Tryz.ntmps144
     go_wp2_with fail
     go_ret
     exact ⟨ret_b (by simp; try omega), rfl⟩
   ·rw [decide_eq_true k1, decide_eq_true k2, decide_eq_false k3]
    replace k3 : m < 1 := by omega
    go_enter Tryz.func144, Tryz.ntmps144
    go_wp2_with fail
    go_ret
    exact ⟨ret_b (by simp; try omega), rfl⟩
  ·rw [decide_eq_true k1, decide_eq_false k2]
   replace k2 : 65536 ≤ a := by omega
   go_enter Tryz.func144, Tryz.ntmps144
   go_wp2_with fail
   go_ret
   exact ⟨ret_b (by simp; try omega), rfl⟩
 ·rw [decide_eq_false k1]
  replace k1 : a < 0 := by omega
  go_enter Tryz.func144, Tryz.ntmps144
  go_wp2_with fail
  go_ret
  exact ⟨ret_b (by simp; try omega), rfl⟩
theorem put_at (a : Nat) (w : World) (h : a < 1048576) : Calls Tryz.prog 113 #[.int .u64 0, .int .i64 0, .int .i64 20, .int .u64 (a : Nat)] w fun e w' => e = .returned (.int .u64 (a : Nat)) ∧ w = w' := by
 refine (put_yes 0 0 20 a w (by omega) (by omega) (by omega) (by omega) (by omega) (by omega) (by omega) (by omega)).mono ?_
 rintro e w' ⟨rfl, rfl⟩
 refine ⟨?_, rfl⟩
 have e : a % 1048576 = a := Nat.mod_eq_of_lt (by omega)
 simp [putI, putN, e]
theorem put_many (a m : Nat) (w : World) (h : a < 1048576) (hm : m < 65536) : Calls Tryz.prog 113 #[.int .u64 (a : Nat), .int .i64 20, .int .i64 16, .int .u64 (m : Nat)] w fun e w' => e = .returned (.int .u64 ((a + 1048576 * m : Nat) : Int)) ∧ w = w' := by
 refine (put_yes a 20 16 m w (by omega) (by omega) (by omega) (by omega) (by omega) (by omega) (by omega) (by omega)).mono ?_
 rintro e w' ⟨rfl, rfl⟩
 refine ⟨?_, rfl⟩
 have e : m % 65536 = m := Nat.mod_eq_of_lt (by omega)
 have e2 : a % 1048576 = a := Nat.mod_eq_of_lt (by omega)
 have e3 : a / 68719476736 = 0 := by omega
 simp [putI, putN, e, e2, e3]
 omega
theorem putN_gen (b g : Nat) (h : b < 281474976710656) : putN b 48 16 g = b + 281474976710656 * (g % 65536) := by
 unfold putN
 rw [show (2 : Nat) ^ 48 = 281474976710656 from by decide, show (2 : Nat) ^ 16 = 65536 from by decide, Nat.mod_eq_of_lt h, Nat.div_eq_of_lt (Nat.lt_of_lt_of_le h (by decide)), Nat.zero_mul, Nat.add_zero, Nat.mul_comm]
theorem put_gen (b g : Nat) (w : World) (h : b < 281474976710656) (hg : g < 18446744073709551616) : Calls Tryz.prog 113 #[.int .u64 (b : Nat), .int .i64 48, .int .i64 16, .int .u64 (g : Nat)] w fun e w' => e = .returned (.int .u64 ((b + 281474976710656 * (g % 65536) : Nat) : Int)) ∧ w = w' := by
 refine (put_yes b 48 16 g w (by omega) (by omega) (by omega) (by omega) (by omega) (by omega) (by omega) (by omega)).mono ?_
 rintro e w' ⟨rfl, rfl⟩
 refine ⟨?_, rfl⟩
 rw [← putN_gen b g h]
 rfl
theorem first_any (g a m : Nat) (w : World) (hg : g < 18446744073709551616) (ha : a < 1048576) (hm : m < 65536) :
 Calls Tryz.prog 145 #[.int .u64 (g : Nat), .int .i64 (a : Nat), .int .i64 (m : Nat)] w fun e w' => e = .returned (.int .u64 (firstW g a m : Nat)) ∧ w' = w := by
 have h1 := put_at a w ha
 have h2 := put_many a m w ha hm
 have h3 := put_gen (a + 1048576 * m) g w (by omega) hg
 unfold firstW
 generalize a + 1048576 * m = b at *
 generalize b + 281474976710656 * (g % 65536) = c at *
 go_enter Tryz.func145, Tryz.ntmps145
 go_wp2_with (first
  | (go_at_call 113; refine h1.mono ?_; rintro e w1 ⟨rfl, rfl⟩; clear h1)
  | (go_at_call 113; refine h2.mono ?_; rintro e w1 ⟨rfl, rfl⟩; clear h2)
  | (go_at_call 113; refine h3.mono ?_; rintro e w1 ⟨rfl, rfl⟩; clear h3))
 go_ret
 exact ⟨rfl, rfl⟩
end Go.Proofs.YtkdhdibjbabgfaaGreatDoor
end
section
namespace Go.Proofs.YtkdhdibjbabgfaaGreatDoor
open Go.RowKit Go.ChangeShapes Go.WideShapes Go.Deep
abbrev Ox := Int × Int × Nat
def opE (o : Ox) : List Value := [.int .i64 o.1, .int .i64 o.2.1, .int .u64 (o.2.2 : Nat)]
def opV (o : Ox) : Value := .agg #[.int .i64 o.1, .int .i64 o.2.1, .int .u64 (o.2.2 : Nat)]
theorem opE_len (o : Ox) : (opE o).length = 3 := rfl
theorem infoOp : (Tryz.prog.info? 53).map (fun i => (i.zero, i.size, i.bytes)) = some (some (.agg #[.int .i64 0, .int .i64 0, .int .u64 0]), 3, 24) := by kernel_rfl
theorem opT : ElT Tryz.prog 35 53 3 24 opE :=
 ⟨Tryz.underlying35, by obtain ⟨i0, h1, h2, h3, h4⟩ := info_parts infoOp; exact ⟨i0, _, h1, h2, h3, h4, rfl⟩, opE_len, fun x u hu => by simp only [opE, List.mem_cons, List.not_mem_nil, or_false] at hu; rcases hu with rfl | rfl | rfl <;> rfl, by decide, by decide⟩
def OPL (w : World) (v : Value) (l : List Ox) : Prop := EL 3 opE w v l
theorem OPL.keep {w w1 : World} {v : Value} {l : List Ox} (h : OPL w v l) (hb : Below w.heap.size w w1) : OPL w1 v l := EL.keep h hb
theorem OPL.form {w : World} {v : Value} {l : List Ox} {n : Nat} (h : OPL w v l) (hn : l.length = n) : ∃ A cap, v = .slice A n cap ∧
 ∀ w1 i, Below w.heap.size w w1 → i < n → ∃ g off, A = some ⟨g, off, none⟩ ∧ n ≤ cap ∧ g < w.heap.size ∧ g < w1.heap.size ∧ w1.cell? ⟨g, off + i * 3, none⟩ = some (.int .i64 (l.getD i default).1) ∧ w1.cell? ⟨g, off + i * 3 + 1, none⟩ = some (.int .i64 (l.getD i default).2.1) ∧ w1.cell? ⟨g, off + i * 3 + 2, none⟩ = some (.int .u64 ((l.getD i default).2.2 : Nat)) := by
 obtain ⟨A, cap, hv, h⟩ := EL.form h hn
 refine ⟨A, cap, hv, fun w1 i hb hi => ?_⟩
 obtain ⟨g, off, hA, h1, h2, h3, hc⟩ := h w1 i hb hi
 exact ⟨g, off, hA, h1, h2, h3, hc 0 (by omega), hc 1 (by omega), hc 2 (by omega)⟩
def C3 (w : World) (b : Nat) (x y z : Value) : Prop := w.cell? ⟨b, 0, none⟩ = some x ∧ w.cell? ⟨b, 1, none⟩ = some y ∧ w.cell? ⟨b, 2, none⟩ = some z
theorem C3.lt {w : World} {b : Nat} {x y z : Value} (h : C3 w b x y z) : b < w.heap.size := World.block_lt_of_cell? w _ h.1
theorem C3.keep {W w1 : World} {b : Nat} {x y z : Value} (h : C3 W b x y z) (hb : Below W.heap.size W w1) : C3 w1 b x y z :=
 ⟨by rw [(bcell hb).1 _ _ h.lt]; exact h.1, by rw [(bcell hb).1 _ _ h.lt]; exact h.2.1, by rw [(bcell hb).1 _ _ h.lt]; exact h.2.2⟩
theorem C3.new (w : World) (x y z : Value) (t : TypeId) : C3 (w.alloc (.cells #[x, y, z] t)) w.heap.size x y z := by
 refine ⟨?_, ?_, ?_⟩ <;> simp [go_sem]
theorem C3.alloc {W : World} {b : Nat} {x y z : Value} (h : C3 W b x y z) (o : Obj) : C3 (W.alloc o) b x y z := h.keep (bZ _ _)
def wrongB (o : Ox) : Bool := decide (o.1 < 0) || decide (2 < o.1) || decide (o.2.1 < 0) || decide (65536 ≤ o.2.1)
theorem wrongB_f {o : Ox} (h : wrongB o = false) : 0 ≤ o.1 ∧ o.1 ≤ 2 ∧ 0 ≤ o.2.1 ∧ o.2.1 < 65536 := by
 simp only [wrongB, Bool.or_eq_false_iff, decide_eq_false_iff_not] at h; omega
theorem wrong_any (o : Ox) (w : World) : Calls Tryz.prog 128 #[opV o] w fun e w' => e = .returned (.bool (wrongB o)) ∧ Below w.heap.size w w' := by
 obtain ⟨k, a, v⟩ := o
 unfold opV
 simp only []
 have fin : ∀ b : Bool, b = wrongB (k, a, v) → ∀ w1, Below w.heap.size w w1 → Ending.returned (.bool b) = .returned (.bool (wrongB (k, a, v))) ∧ Below w.heap.size w w1 := fun b h w1 hb => ⟨by rw [h], hb⟩
 replace fin := lh fin
 have hB : Below w.heap.size w (w.alloc (.cells #[.int .i64 k, .int .i64 a, .int .u64 (v : Nat)] (53 : Nat))) := bZ _ _
 obtain ⟨c0, c1, c2⟩ := C3.new w (.int .i64 k) (.int .i64 a) (.int .u64 (v : Nat)) (53 : Nat)
 by_cases h1 : k < 0
 ·have e := lh (show true = wrongB (k, a, v) from by simp [wrongB, h1])
  go_enter Tryz.func128, Tryz.ntmps128
  go_wp2_with fail
  go_ret
  first | exact fin.out _ e.out _ hB | exact fin.out _ (by rw [← e.out]; simp; omega) _ hB
 by_cases h2 : 2 < k
 ·have e := lh (show true = wrongB (k, a, v) from by simp [wrongB, h2])
  go_enter Tryz.func128, Tryz.ntmps128
  go_wp2_with fail
  go_ret
  first | exact fin.out _ e.out _ hB | exact fin.out _ (by rw [← e.out]; simp; omega) _ hB
 by_cases h3 : a < 0
 ·have e := lh (show true = wrongB (k, a, v) from by simp [wrongB, h3])
  go_enter Tryz.func128, Tryz.ntmps128
  go_wp2_with fail
  go_ret
  first | exact fin.out _ e.out _ hB | exact fin.out _ (by rw [← e.out]; simp; omega) _ hB
 by_cases h4 : 65536 ≤ a
 ·have e := lh (show true = wrongB (k, a, v) from by simp [wrongB, h4])
  go_enter Tryz.func128, Tryz.ntmps128
  go_wp2_with fail
  go_ret
  first | exact fin.out _ e.out _ hB | exact fin.out _ (by rw [← e.out]; simp; omega) _ hB
 ·have e := lh (show false = wrongB (k, a, v) from by simp [wrongB]; omega)
  go_enter Tryz.func128, Tryz.ntmps128
  go_wp2_with fail
  go_ret
  first | exact fin.out _ e.out _ hB | exact fin.out _ (by rw [← e.out]; simp; omega) _ hB
theorem can_any_rd (o : Ox) (w : World) : Calls Tryz.prog 62 #[opV o] w fun e w' => e = .returned (.bool (!wrongB o)) ∧ Below w.heap.size w w' := by
 obtain ⟨k, a, v⟩ := o
 unfold opV
 simp only []
 have fin : ∀ b : Bool, b = !wrongB (k, a, v) → ∀ w1, Below w.heap.size w w1 → Ending.returned (.bool b) = .returned (.bool (!wrongB (k, a, v))) ∧ Below w.heap.size w w1 := fun b h w1 hb => ⟨by rw [h], hb⟩
 replace fin := lh fin
 have hB : Below w.heap.size w (w.alloc (.cells #[.int .i64 k, .int .i64 a, .int .u64 (v : Nat)] (53 : Nat))) := bZ _ _
 obtain ⟨c0, c1, c2⟩ := C3.new w (.int .i64 k) (.int .i64 a) (.int .u64 (v : Nat)) (53 : Nat)
 by_cases h1 : k < 0
 ·have e := lh (show false = !wrongB (k, a, v) from by simp [wrongB, h1])
  have h1' : ¬ (0 ≤ k) := by omega
  go_enter Tryz.func62, Tryz.ntmps62
  go_wp2_with fail
  go_ret
  first | exact fin.out _ e.out _ hB | exact fin.out _ (by rw [← e.out]; simp; omega) _ hB
 by_cases h2 : 2 < k
 ·have e := lh (show false = !wrongB (k, a, v) from by simp [wrongB, h2])
  have h1' : 0 ≤ k := by omega
  go_enter Tryz.func62, Tryz.ntmps62
  go_wp2_with fail
  go_ret
  first | exact fin.out _ e.out _ hB | exact fin.out _ (by rw [← e.out]; simp; omega) _ hB
 by_cases h3 : a < 0
 ·have e := lh (show false = !wrongB (k, a, v) from by simp [wrongB, h3])
  have h1' : 0 ≤ k := by omega
  have h2' : k ≤ 2 := by omega
  have h3' : ¬ (0 ≤ a) := by omega
  go_enter Tryz.func62, Tryz.ntmps62
  go_wp2_with fail
  go_ret
  first | exact fin.out _ e.out _ hB | exact fin.out _ (by rw [← e.out]; simp; omega) _ hB
 by_cases h4 : 65536 ≤ a
 ·have e := lh (show false = !wrongB (k, a, v) from by simp [wrongB, h4])
  have h1' : 0 ≤ k := by omega
  have h2' : k ≤ 2 := by omega
  have h3' : 0 ≤ a := by omega
  have h4' : 65535 < a := by omega
  go_enter Tryz.func62, Tryz.ntmps62
  go_wp2_with fail
  go_ret
  first | exact fin.out _ e.out _ hB | exact fin.out _ (by rw [← e.out]; simp; omega) _ hB
 ·have e := lh (show true = !wrongB (k, a, v) from by simp [wrongB]; omega)
  have h1' : 0 ≤ k := by omega
  have h2' : k ≤ 2 := by omega
  have h3' : 0 ≤ a := by omega
  have h4' : a ≤ 65535 := by omega
  go_enter Tryz.func62, Tryz.ntmps62
  go_wp2_with fail
  go_ret
  first | exact fin.out _ e.out _ hB | exact fin.out _ (by rw [← e.out]; simp; omega) _ hB
def wordOp (o : Ox) : Int := 4 * o.2.1 + o.1
theorem put_k (k : Int) (w : World) (h0 : 0 ≤ k) (h1 : k ≤ 2) :
 Calls Tryz.prog 113 #[.int .u64 0, .int .i64 0, .int .i64 2, .int .u64 k] w fun e w' => e = .returned (.int .u64 k) ∧ w = w' := by
 refine (put_yes 0 0 2 k w (by omega) (by omega) (by omega) (by omega) (by omega) (by omega) h0 (by omega)).mono ?_
 rintro e w' ⟨rfl, rfl⟩
 refine ⟨?_, rfl⟩
 obtain ⟨V, rfl⟩ := Int.eq_ofNat_of_zero_le h0
 have e : V % 4 = V := Nat.mod_eq_of_lt (by omega)
 simp [putI, putN, e]
theorem put_a (k a : Int) (w : World) (h0 : 0 ≤ k) (h1 : k ≤ 2) (h2 : 0 ≤ a) (h3 : a < 65536) :
 Calls Tryz.prog 113 #[.int .u64 k, .int .i64 2, .int .i64 20, .int .u64 a] w fun e w' => e = .returned (.int .u64 (4 * a + k)) ∧ w = w' := by
 refine (put_yes k 2 20 a w (by omega) (by omega) (by omega) (by omega) (by omega) (by omega) h2 (by omega)).mono ?_
 rintro e w' ⟨rfl, rfl⟩
 refine ⟨?_, rfl⟩
 obtain ⟨V, rfl⟩ := Int.eq_ofNat_of_zero_le h2
 obtain ⟨K, rfl⟩ := Int.eq_ofNat_of_zero_le h0
 have e : V % 1048576 = V := Nat.mod_eq_of_lt (by omega)
 have e2 : K % 4 = K := Nat.mod_eq_of_lt (by omega)
 have e3 : K / 4194304 = 0 := by omega
 simp [putI, putN, e, e2, e3]
 omega
theorem first_any_rd (o : Ox) (w : World) (h : wrongB o = false) : Calls Tryz.prog 129 #[opV o] w fun e w' => e = .returned (.int .u64 (wordOp o)) ∧ Below w.heap.size w w' := by
 obtain ⟨k, a, v⟩ := o
 obtain ⟨h1, h2, h3, h4⟩ := wrongB_f h
 unfold opV wordOp
 simp only [] at *
 clear h
 have hB : Below w.heap.size w (w.alloc (.cells #[.int .i64 k, .int .i64 a, .int .u64 (v : Nat)] (53 : Nat))) := bZ _ _
 obtain ⟨c0, c1, c2⟩ := C3.new w (.int .i64 k) (.int .i64 a) (.int .u64 (v : Nat)) (53 : Nat)
 have hBd := hB.drew
 have fk : IntKind.u64.wrap k = k := by rw [IntKind.wrap_u64]; omega
 have fa : IntKind.u64.wrap a = a := by rw [IntKind.wrap_u64]; omega
 have hP1 := lh (fun w => put_k k w h1 h2)
 have hP2 := lh (fun w => put_a k a w h1 h2 h3 h4)
 go_enter Tryz.func129, Tryz.ntmps129
 go_wp2_with fail
 go_region_held3 (fun w' => w'.cell? ⟨w.heap.size, 0, none⟩ = some (.int .i64 k) ∧ w'.cell? ⟨w.heap.size, 1, none⟩ = some (.int .i64 a) ∧ Below w.heap.size w w')
  (((try go_split_ands); refine ⟨?_, ?_, ?_⟩ <;> first | assumption))
  (((try go_split_ands); first | ((with_reducible refine (hP1.out _).mono ?_); rintro e w8 ⟨rfl, rfl⟩) | ((with_reducible refine (hP2.out _).mono ?_); rintro e w8 ⟨rfl, rfl⟩)))
 go_split_ands
 go_wp2_with fail
 go_ret
 exact ⟨rfl, by assumption⟩
end Go.Proofs.YtkdhdibjbabgfaaGreatDoor
end
