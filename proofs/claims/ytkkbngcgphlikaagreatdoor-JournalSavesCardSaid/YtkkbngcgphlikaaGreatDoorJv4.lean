/-
  Part of the proof of JournalSaves.
-/
import Derived.Test.YtkkbngcgphlikaaGreatDoorJv2
import Derived.Test.YtkkbngcgphlikaaGreatDoorJv3
import Derived.Deep.RegionHeld3
import Derived.Laws.CopyOwn
import Derived.Lib.AppendZerosOnto
import Derived.Lib.SliceRun
import Derived.Test.YtkkbngcgphlikaaGreatDoorJv0
set_option maxRecDepth 10000
set_option maxHeartbeats 500000
set_option linter.unusedVariables false
set_option linter.unusedSimpArgs false
section
namespace Go.Proofs.YtkkbngcgphlikaaGreatDoor
open Go.RowKit
theorem infoU64 : (Tryz.prog.info? 40).map (fun i => (i.zero, i.size, i.bytes)) = some (some (.int .u64 0), 1, 8) := by kernel_rfl
theorem infoU64s : (Tryz.prog.info? 40).map (·.size) = some 1 := by kernel_rfl
theorem row_cell {w : World} {g : Nat} {cs : Array Value} {t : TypeId} (h : w.heap[g]? = some (.cells cs t (0, 0))) (i : Nat) : w.cell? ⟨g, i, none⟩ = cs[i]? ∧ w.frozen? ⟨g, i, none⟩ = false := by
 constructor <;> simp [World.cell?, World.frozen?, h]
theorem row_of_owns {w : World} {base e g n cap : Nat} {xs : List Value} (h : w.ownsRow base e 1 (.slice (some ⟨g, 0, none⟩) n cap) n xs) (hc : n = cap) : w.heap[g]? = some (.cells xs.toArray e (0, 0)) := by
 rcases h.2 with ⟨hv, _⟩ | ⟨g', cap', cur, hv, hb, hg, h1, h2, h3, h4⟩
 ·simp at hv
 ·simp only [Value.slice.injEq, Option.some.injEq, Addr.mk.injEq, and_true, true_and] at hv
  obtain ⟨rfl, rfl⟩ := hv
  subst hc
  rw [hg]
  have : cur.toList = xs := by
   rw [← h4, List.take_of_length_le (by simp [h3])]
  rw [← this]
def wv (l : List Nat) : List Value := l.map fun x : Nat => Value.int .u64 (x : Int)
theorem wv_len (l : List Nat) : (wv l).length = l.length := by simp [wv]
theorem wv_at (l : List Nat) (i : Nat) (h : i < l.length) : (wv l)[i]? = some (.int .u64 (l.getD i 0 : Nat)) := by
 unfold wv
 rw [List.getElem?_map, List.getElem?_eq_getElem h, List.getD_eq_getElem?_getD, List.getElem?_eq_getElem h]
 rfl
theorem copyW {w1 : World} {g d cap : Nat} {sp : Option Addr} {t : TypeId} (l : List Nat) (h : w1.heap[g]? = some (.cells (List.replicate d (Value.int .u64 0)).toArray t (0, 0))) (hv : SL w1 (.slice sp l.length cap) l) :
 ∃ w2, (Builtin.copy_ #[25, 25] 3 #[.slice (some ⟨g, 0, none⟩) d d, .slice sp l.length cap]).run Tryz.prog w1 = .ok (goInt (Nat.min l.length d)) w2 ∧
   w2.heap[g]? = some (.cells (wv (l.take (Nat.min l.length d)) ++ List.replicate (d - Nat.min l.length d) (Value.int .u64 0)).toArray t (0, 0)) ∧ Below g w1 w2 := by
 by_cases h0 : Nat.min l.length d = 0
 ·refine ⟨w1, ?_, ?_, Below.refl _ _⟩
  ·rw [h0]; exact run_copy_none w1 _ _ _ 40 _ _ _ _ _ _ Tryz.underlying25 infoU64s h0
  ·rw [h0]; simpa [wv] using h
 ·rcases hv with ⟨rfl, _⟩ | ⟨g', off, cap', hv, hg, hcap, hc⟩
  ·exact absurd (by simp) h0
  ·simp only [Value.slice.injEq, true_and] at hv
   obtain ⟨rfl, rfl⟩ := hv
   have hk1 : Nat.min l.length d ≤ l.length := Nat.min_le_left _ _
   have hk2 : Nat.min l.length d ≤ d := Nat.min_le_right _ _
   generalize hk : Nat.min l.length d = k at *
   have hcs : (wv (l.take k)).length = k := by rw [wv_len]; simp; omega
   have hrun := run_copy_row (P := Tryz.prog) w1 25 25 3 40 g 0 d d ⟨g', off, none⟩ l.length cap _ t (wv (l.take k)) Tryz.underlying25 infoU64s h (by rw [hcs, ← hk])
    (fun j v hj => by
      have hjk : j < k := by
       have := (List.getElem?_eq_some_iff.1 hj).1
       omega
      rw [wv_at _ j (by simp; omega)] at hj
      rw [← hj, show (⟨g', off, none⟩ : Addr).add j = ⟨g', off + j, none⟩ by simp [Addr.add], hc j (by omega)]
      congr 3
      rw [List.getD_eq_getElem?_getD, List.getD_eq_getElem?_getD, List.getElem?_take, if_pos hjk])
    (by rw [hcs]; simp; omega) (fun v hv => by unfold wv at hv; obtain ⟨x, _, rfl⟩ := List.mem_map.1 hv; rfl)
   refine ⟨_, by rw [← hcs]; exact hrun, ?_, below_setRow (Below.refl _ _) (Nat.le_refl _) _⟩
   have := setRow_heap w1 g (List.replicate d (Value.int .u64 0)).toArray (wv (l.take k) ++ List.replicate (d - k) (Value.int .u64 0)).toArray t _ h
   rw [← this]
   congr 3
   simp [hcs]
theorem cellK {w w1 : World} {b o : Nat} {v : Value} (h : w.cell? ⟨b, o, none⟩ = some v) (hb : Below w.heap.size w w1) : w1.cell? ⟨b, o, none⟩ = some v := by
 rw [(bcell hb).1 _ _ (World.block_lt_of_cell? w _ h)]; exact h
end Go.Proofs.YtkkbngcgphlikaaGreatDoor
end
section
namespace Go.Proofs.YtkkbngcgphlikaaGreatDoor
open Go.RowKit
theorem SL.one (w : World) (x : Nat) (t : TypeId) : SL (w.alloc (.cells #[.int .u64 x] t)) (.slice (some ⟨w.heap.size, 0, none⟩) 1 1) [x] := by
 refine .inr ⟨w.heap.size, 0, 1, rfl, by simp, by simp, fun i hi => ?_⟩
 obtain rfl : i = 0 := by simp at hi; omega
 simp [go_sem]
theorem SL.pos {w : World} {v : Value} {l : List Nat} {n : Nat} (h : SL w v l) (hn : l.length = n + 1) : ∃ g off cap, v = .slice (some ⟨g, off, none⟩) (n + 1) cap ∧ g < w.heap.size ∧ n + 1 ≤ cap ∧ ∀ i, i < n + 1 → w.cell? ⟨g, off + i, none⟩ = some (.int .u64 (l.getD i 0 : Nat)) := by
 rcases h with ⟨rfl, _⟩ | ⟨g, off, cap, rfl, hg, hcap, hc⟩
 ·simp at hn
 ·exact ⟨g, off, cap, by rw [hn], hg, by omega, fun i hi => hc i (by omega)⟩
theorem WL.nil : WL [] := fun x h => by simp at h
theorem WL.one {x : Nat} (h : x < 18446744073709551616) : WL [x] := fun y hy => by simp at hy; omega
theorem WL.append {l k : List Nat} (h : WL l) (h2 : WL k) : WL (l ++ k) := fun x hx => by
 rcases List.mem_append.1 hx with h3 | h3
 ·exact h x h3
 ·exact h2 x h3
end Go.Proofs.YtkkbngcgphlikaaGreatDoor
end
section
namespace Go.Proofs.YtkkbngcgphlikaaGreatDoor
open Go.RowKit
theorem SL.form {w : World} {v : Value} {l : List Nat} (h : SL w v l) : ∃ sp cap, v = .slice sp l.length cap := by
 rcases h with ⟨rfl, sp, cap, rfl⟩ | ⟨g, off, cap, rfl, _⟩
 ·exact ⟨_, _, rfl⟩
 ·exact ⟨_, _, rfl⟩
end Go.Proofs.YtkkbngcgphlikaaGreatDoor
end
section
namespace Go.Proofs.YtkkbngcgphlikaaGreatDoor
open Go.RowKit Go.ChangeShapes Go.WideShapes Go.Deep
def KL (K : IntKind) (w : World) (v : Value) (l : List Nat) : Prop :=
 ∃ A cap, v = .slice A l.length cap ∧ (0 < l.length → ∃ g off, A = some ⟨g, off, none⟩ ∧ g < w.heap.size ∧ l.length ≤ cap ∧ ∀ i, i < l.length → w.cell? ⟨g, off + i, none⟩ = some (.int K (l.getD i 0 : Nat)))
theorem KL.keep {K : IntKind} {w w1 : World} {v : Value} {l : List Nat} (h : KL K w v l) (hb : Below w.heap.size w w1) : KL K w1 v l := by
 obtain ⟨A, cap, hv, h⟩ := h
 refine ⟨A, cap, hv, fun hl => ?_⟩
 obtain ⟨g, off, hA, hg, hc, hi⟩ := h hl
 exact ⟨g, off, hA, Nat.lt_of_lt_of_le hg hb.size, hc, fun i h => by rw [(bcell hb).1 _ _ hg]; exact hi i h⟩
theorem KL.form {K : IntKind} {w : World} {v : Value} {l : List Nat} {n : Nat} (h : KL K w v l) (hn : l.length = n) : ∃ A cap, v = .slice A n cap ∧
 ∀ w1 i, Below w.heap.size w w1 → i < n → ∃ g off, A = some ⟨g, off, none⟩ ∧ n ≤ cap ∧ g < w1.heap.size ∧ w1.cell? ⟨g, off + i, none⟩ = some (.int K (l.getD i 0 : Nat)) := by
 obtain ⟨A, cap, hv, h⟩ := h
 refine ⟨A, cap, by rw [hv, hn], fun w1 i hb hi => ?_⟩
 obtain ⟨g, off, hA, hg, hc, hcell⟩ := h (by omega)
 refine ⟨g, off, hA, by omega, Nat.lt_of_lt_of_le hg hb.size, ?_⟩
 rw [(bcell hb).1 _ _ hg]; exact hcell i (by omega)
def BL (l : List Nat) : Prop := ∀ x ∈ l, x < 256
theorem BL.at {l : List Nat} (h : BL l) (i : Nat) (hi : i < l.length) : l.getD i 0 < 256 := by
 rw [List.getD_eq_getElem?_getD, List.getElem?_eq_getElem hi]
 exact h _ (List.getElem_mem hi)
theorem cell_new1 (W : World) (v : Value) (t : TypeId) : (W.alloc (.cells #[v] t)).cell? ⟨W.heap.size, 0, none⟩ = some v := by simp [go_sem]
theorem appU {w : World} {base g k y : Nat} {v : Value} {xs : List Value} (hown : w.ownsRow base 40 1 v k xs) (hx : w.cell? ⟨g, 0, none⟩ = some (.int .u64 y)) (hb : base ≤ w.heap.size) (hsm : k ≤ 1000000) :
 ∃ v' w', (Builtin.append_ #[25, 25] 25 #[v, .slice (some ⟨g, 0, none⟩) 1 1]).run Tryz.prog w = .ok v' w' ∧ w'.ownsRow base 40 1 v' (k + 1) (xs ++ [.int .u64 y]) ∧ w.grownBy w' v.ownBlock ∧ (v'.ownBlock = v.ownBlock ∨ v'.ownBlock = some w.heap.size) := by
 obtain ⟨i0, hi, hz0, hz1, hz2⟩ := info_parts infoU64
 obtain ⟨v', w', hrun, h1, h2, _, h4⟩ := run_append_own_at (P := Tryz.prog) w base 25 25 40 i0 (.int .u64 0) 1 8 Tryz.underlying25 hi hz0 hz1 hz2 rfl (by decide) v k xs hown ⟨g, 0, none⟩ 1 1 [.int .u64 y] rfl
  (fun j u hj => by
    match j, hj with
    | 0, hj => simp only [List.getElem?_cons_zero] at hj; rw [← hj]; simpa [Addr.add] using hx
    | j + 1, hj => simp at hj) (by simp [Value.oneCell']) (by unfold maxLen; omega) (by omega) hb
 exact ⟨v', w', hrun, h1, h2, h4⟩
def OwnU (w : World) (base : Nat) (v : Value) (l : List Nat) : Prop := w.ownsRow base 40 1 v l.length (l.map fun x : Nat => Value.int .u64 x)
theorem OwnU.kl {w : World} {base : Nat} {v : Value} {l : List Nat} (h : OwnU w base v l) : KL .u64 w v l := by
 have h' := h
 rcases h.2 with ⟨hv, hn⟩ | ⟨g, cap, cur, hv, hb, hg, h1, h2, h3, h4⟩
 ·have : l = [] := by simpa using hn
  subst this
  exact ⟨none, 0, hv, fun h => by simp at h⟩
 ·subst hv
  refine ⟨some ⟨g, 0, none⟩, cap, rfl, fun _ => ⟨g, 0, rfl, (Array.getElem?_eq_some_iff.1 hg).1, h1, fun i hi => ?_⟩⟩
  rw [Nat.zero_add]
  rw [World.ownsRow.cellAt h' i (by omega)]
  simp [List.getD_eq_getElem?_getD, List.getElem?_eq_getElem hi]
theorem OwnU.mono {w : World} {base b2 : Nat} {v : Value} {l : List Nat} (h : OwnU w base v l) (hb : b2 ≤ base) : OwnU w b2 v l := by
 refine ⟨h.1, ?_⟩
 rcases h.2 with h2 | ⟨g, cap, cur, hv, hbg, hg, h1, h2, h3, h4⟩
 ·exact .inl h2
 ·exact .inr ⟨g, cap, cur, hv, by omega, hg, h1, h2, h3, h4⟩
theorem OwnU.keep {w w1 : World} {base : Nat} {v : Value} {l : List Nat} (h : OwnU w base v l) (hb : Below w.heap.size w w1) : OwnU w1 base v l := by
 refine ⟨h.1, ?_⟩
 rcases h.2 with h2 | ⟨g, cap, cur, hv, hbg, hg, h1, h2, h3, h4⟩
 ·exact .inl h2
 ·exact .inr ⟨g, cap, cur, hv, hbg, by rw [hb.block g (Array.getElem?_eq_some_iff.1 hg).1]; exact hg, h1, h2, h3, h4⟩
theorem KL.lit (w : World) (l : List Nat) (hl : l.length ≤ 1000) : KL .u64 (w.alloc (.cells (l.map fun x : Nat => Value.int .u64 x).toArray (40 : Nat))) (.slice (some ⟨w.heap.size, 0, none⟩) l.length l.length) l := by
 have := World.ownsRow_lit (base := w.heap.size) (e := 40) (size := 1) w (l.map fun x : Nat => Value.int .u64 x).toArray l.length (Nat.le_refl _) (by unfold maxLen; omega) (by simp)
 exact OwnU.kl (base := w.heap.size) (by simpa [OwnU] using this)
theorem appW {w : World} {base : Nat} {v u : Value} {l m : List Nat} (hown : OwnU w base v l) (ha : KL .u64 w u m) (hb : base ≤ w.heap.size) (hsm : l.length ≤ 1000000) (hsm2 : m.length ≤ 1000000) :
 ∃ v' w', (Builtin.append_ #[25, 25] 25 #[v, u]).run Tryz.prog w = .ok v' w' ∧ OwnU w' base v' (l ++ m) ∧ Below base w w' := by
 obtain ⟨i0, hi, hz0, hz1, hz2⟩ := info_parts infoU64
 have ht : Tryz.prog.underlying 25 = some (.slice 40) := Tryz.underlying25
 obtain ⟨A, cap, rfl, h⟩ := ha
 cases m with
 | nil =>
   refine ⟨v, w, ?_, by simpa using hown, Below.refl _ _⟩
   rcases hown.2 with ⟨rfl, _⟩ | ⟨g, cap', cur, rfl, _, _, hnc, _⟩
   ·cases A <;> simp [Builtin.append_, run_underlying ht, sizeOf, typeInfo, hi, Builtin.lenOf, Builtin.firstCells, loadCells, loadCellsFrom, storeCells]
   ·cases A <;> simp [Builtin.append_, run_underlying ht, sizeOf, typeInfo, hi, Builtin.lenOf, Builtin.firstCells, hnc, loadCells, loadCellsFrom, storeCells]
 | cons x m =>
   obtain ⟨g, off, rfl, hg, hc, hcell⟩ := h (by simp)
   obtain ⟨v', w', hrun, k1, k2, _, k4⟩ := run_append_own_at (P := Tryz.prog) w base 25 25 40 i0 (.int .u64 0) 1 8 Tryz.underlying25 hi hz0 hz1 hz2 rfl (by decide) v l.length _ hown ⟨g, off, none⟩ (x :: m).length cap ((x :: m).map fun x : Nat => Value.int .u64 x) (by simp)
    (fun j u hj => by
      have hj2 : j < (x :: m).length := by have := (List.getElem?_eq_some_iff.1 hj).1; simpa using this
      have c0 := hcell j hj2
      rw [List.getElem?_map, List.getElem?_eq_getElem hj2] at hj
      rw [List.getD_eq_getElem?_getD, List.getElem?_eq_getElem hj2] at c0
      simp only [Option.map_some, Option.some.injEq] at hj
      rw [← hj]
      rw [add_plain]; exact c0) (by intro u hu; obtain ⟨y, _, rfl⟩ := List.mem_map.1 hu; rfl) (by unfold maxLen; omega) (by omega) hb
   refine ⟨v', w', hrun, ?_, (Below.refl base w).grown k2 hb (fun j hj => (World.ownsRow.lt hown j hj).1)⟩
   unfold OwnU
   rw [List.length_append, List.map_append]
   exact k1
theorem newW {w : World} {u : Value} {l : List Nat} (h1 : KL .u64 w u l) (l1 : l.length ≤ 100000) :
 ∃ v1 w1, (Builtin.append_ #[25, 25] 25 #[.slice (some ⟨w.heap.size, 0, none⟩) 0 0, u]).run Tryz.prog (w.alloc (.cells #[] (40 : Nat))) = .ok v1 w1 ∧ OwnU w1 w.heap.size v1 l ∧ Below w.heap.size w w1 := by
 have hO : OwnU (w.alloc (.cells #[] (40 : Nat))) w.heap.size (.slice (some ⟨w.heap.size, 0, none⟩) 0 0) [] := World.ownsRow_lit (base := w.heap.size) (e := 40) (size := 1) w #[] 0 (Nat.le_refl _) (by unfold maxLen; omega) rfl
 have hB : Below w.heap.size w (w.alloc (.cells #[] (40 : Nat))) := bZ _ _
 obtain ⟨v1, w1, r1, o1, b1⟩ := appW hO (h1.keep hB) hB.size (by simp) (by omega)
 exact ⟨v1, w1, r1, by simpa using o1, hB.trans b1⟩
theorem clone_any (v : Value) (l : List Nat) (w : World) (hlen : l.length ≤ 100000) (hv : KL .u64 w v l) :
 Calls Tryz.prog 66 #[v] w fun e w' => ∃ v', e = .returned v' ∧ OwnU w' w.heap.size v' l ∧ Below w.heap.size w w' := by
 obtain ⟨v1, w1, hrun, ho, hb⟩ := newW hv hlen
 obtain ⟨A, cap, rfl, h⟩ := hv
 cases A with
 | none =>
   have hl0 : l = [] := by
    cases l with
    | nil => rfl
    | cons x l => obtain ⟨g, off, h0, _⟩ := h (by simp); cases h0
   subst hl0
   clear h hrun ho hb
   have qT : ∀ (w : World) (a : Option Addr) (n c n' c' : Nat), (binOp .eql 25 (.slice a n c) (.slice none n' c')).run Tryz.prog w = .ok (.bool a.isNone) w := fun w a n c n' c' => Lib.run_eql_slice_nil w _ _ a n c n' c' Tryz.underlying25
   go_enter Tryz.func66, Tryz.ntmps66
   go_wp2_with fail
   go_ret
   exact ⟨_, rfl, World.ownsRow_nil _ _ _ _, Below.refl _ _⟩
 | some a =>
   obtain ⟨g, off, s⟩ := a
   generalize l.length = n at *
   clear h
   have qT : ∀ (w : World) (a : Option Addr) (n c n' c' : Nat), (binOp .eql 25 (.slice a n c) (.slice none n' c')).run Tryz.prog w = .ok (.bool a.isNone) w := fun w a n c n' c' => Lib.run_eql_slice_nil w _ _ a n c n' c' Tryz.underlying25
   go_enter Tryz.func66, Tryz.ntmps66
   go_wp2_with (at_builtin; refine wpList_append_run rfl _ _ 25 rfl _ _ _ rfl rfl hrun ?_)
   go_ret
   exact ⟨_, rfl, ho, hb⟩
theorem KL.take {K : IntKind} {w : World} {A : Option Addr} {n cap : Nat} {l : List Nat} (h : KL K w (.slice A n cap) l) (t : Nat) (ht : t ≤ l.length) : KL K w (.slice A t cap) (l.take t) := by
 obtain ⟨A', cap', hv, h⟩ := h
 cases hv
 refine ⟨A, cap, by rw [List.length_take, Nat.min_eq_left ht], fun hl => ?_⟩
 rw [List.length_take, Nat.min_eq_left ht] at hl
 obtain ⟨g, off, hA, hg, hc, hi⟩ := h (by omega)
 refine ⟨g, off, hA, hg, by rw [List.length_take]; omega, fun i h => ?_⟩
 rw [List.length_take] at h
 rw [hi i (by omega), List.getD_eq_getElem?_getD, List.getD_eq_getElem?_getD, List.getElem?_take_of_lt (by omega)]
theorem run_slice_to {P : Program} {ty e : TypeId} {i0 : TypeInfo} (hu : P.underlying ty = some (.slice e)) (hi : P.info? e = some i0) (A : Option Addr) (n cap t : Nat) (h : t ≤ cap) (w : World) :
 (Instr.slice ty (.slice A n cap) none (some (.int .i64 (t : Int))) none).run P w = .ok (.slice A t cap) w := by
 have h1 : (t : Int) ≤ (cap : Int) := by omega
 have h2 : (0 : Int) ≤ (t : Int) := by omega
 simp [Instr.slice, run_underlying hu, Instr.sliceBounds, Instr.sliceBound, asIntOf, sizeOf, typeInfo, hi, h2, go_sem]
 exact fun h' => by omega
theorem wordsK_open {H : Type} {enc : TypeId × Value → H} {P : Program} {W : World} {t e : TypeId} (ht : P.underlying t = some (.slice e)) (he : P.underlying e = some (.int .u64)) (hc : P.cellsOf e = 1) {ad : Option Addr} {len cap : Nat} {d : DataW H} {p : List MemPlace}
 (h : DataW.Trod enc P W 0 (fun _ => true) true t (.slice ad len cap) d p) : ∃ l : List Nat, WL l ∧ KL .u64 W (.slice ad len cap) l := by
 obtain ⟨fuel, hf⟩ := h
 rcases open_ints ht he hc hf with ⟨hcs, _⟩ | ⟨a, len', cap', zs, hcs, _, hl, hm, hz, _, hcell, hwz⟩
 ·simp [Value.cells] at hcs
  obtain ⟨rfl, rfl, rfl⟩ := hcs
  exact ⟨[], fun x hx => by simp at hx, none, 0, rfl, fun h => by simp at h⟩
 ·simp [Value.cells] at hcs
  obtain ⟨rfl, rfl, rfl⟩ := hcs
  simp only [if_true] at hz
  have hb : ∀ z ∈ zs, 0 ≤ z ∧ z ≤ 18446744073709551615 := fun z hz => bounds_u64 (hwz z hz)
  have hlen : ((zs.take len).map Int.toNat).length = len := by simp; omega
  refine ⟨(zs.take len).map Int.toNat, fun x hx => ?_, some a, cap, by rw [hlen], fun h0 => ?_⟩
  ·obtain ⟨z, hz1, rfl⟩ := List.mem_map.1 hx
   have := hb z (List.mem_of_mem_take hz1)
   omega
  ·rw [hlen] at h0 ⊢
   have hc0 := hcell 0 (by omega)
   have hsp : a.spot = none := by
    have := spot_none hc0
    unfold Addr.add at this
    simpa using this
   obtain ⟨g, off, sp⟩ := a
   simp only at hsp
   subst hsp
   refine ⟨g, off, rfl, ?_, by omega, fun i hil => ?_⟩
   ·have := World.block_lt_of_cell? _ _ hc0
    simpa [add_plain] using this
   ·have := hcell i (by omega)
    rw [add_plain] at this
    rw [this]
    have hzi : i < zs.length := by omega
    have e1 : ((zs.take len).map Int.toNat).getD i 0 = (zs[i]).toNat := by
     rw [List.getD_eq_getElem?_getD, List.getElem?_map, List.getElem?_take, if_pos hil, List.getElem?_eq_getElem hzi]
     rfl
    have e2 : zs.getD i 0 = zs[i] := by rw [List.getD_eq_getElem?_getD, List.getElem?_eq_getElem hzi]; rfl
    rw [e1, e2, Int.toNat_of_nonneg (hb _ (List.getElem_mem hzi)).1]
theorem post_of_below_any {H : Type} {enc : TypeId × Value → H} {P : Program} {f : Func} {s : ChangeSpec} {apart fresh handsOn again : Bool} {W W' : World} {args : Array Value} {v : Value} {ds gs : List (DataW H)} {before pa pv : List MemPlace}
 (hW : DataW.Whole enc P f.params.toList s.vars apart W args.toList ds gs before)
 (hres : ∀ (b : Nat) (sp : Nat → Bool) (hd : Bool), DataW.TrodAll enc P W' b sp hd f.resultTypes.toList (v.resultList f.resultTypes.size) (s.fn H (ds ++ gs)).results [])
 (hargs : ∀ sp : Nat → Bool, (∀ p ∈ before, sp p.block = true) → DataW.TrodAll enc P W' 0 sp true f.params.toList args.toList (s.fn H (ds ++ gs)).args pa)
 (hvars : ∀ sp : Nat → Bool, (∀ p ∈ before, sp p.block = true) → DataW.TrodVars enc P W' sp s.vars (s.fn H (ds ++ gs)).vars pv)
 (hps : before = pa ++ pv) (hb : Below W.heap.size W W')
 (hok : ∀ (j : Nat) (t : TypeId) (r : Value), f.resultTypes[j]? = some t → (v.resultList f.resultTypes.size)[j]? = some r → Value.okWide P W' .any 0 t r) :
 s.post enc P f apart fresh handsOn again W args v W' :=
 post_of_below hW hres hargs hvars hps hb hok
end Go.Proofs.YtkkbngcgphlikaaGreatDoor
end
