/-
  Part of the proof of JournalUndo.
-/
import Derived.Test.YtkkbngcgphlikaaGreatDoorJu2
import Derived.Test.YtkkbngcgphlikaaGreatDoorJu3
import Derived.Test.YtkkbngcgphlikaaGreatDoorJu4
import Derived.Lib.AppendZerosOnto
import Derived.Test.YtkkbngcgphlikaaGreatDoorJu0
set_option maxRecDepth 10000
set_option maxHeartbeats 1000000
set_option linter.unusedVariables false
set_option linter.unusedSimpArgs false
namespace Go.Proofs.YtkkbngcgphlikaaGreatDoor
open Go.RowKit Go.ChangeShapes Go.WideShapes Go.Deep
def KL (K : IntKind) (w : World) (v : Value) (l : List Nat) : Prop :=
 ∃ A cap, v = .slice A l.length cap ∧ (0 < l.length → ∃ g off, A = some ⟨g, off, none⟩ ∧ g < w.heap.size ∧ l.length ≤ cap ∧ ∀ i, i < l.length → w.cell? ⟨g, off + i, none⟩ = some (.int K (l.getD i 0 : Nat)))
theorem KL.keep {K : IntKind} {w w1 : World} {v : Value} {l : List Nat} (h : KL K w v l) (hb : Below w.heap.size w w1) : KL K w1 v l := by
 obtain ⟨A, cap, hv, h⟩ := h
 refine ⟨A, cap, hv, fun hl => ?_⟩
 obtain ⟨g, off, hA, hg, hc, hi⟩ := h hl
 exact ⟨g, off, hA, Nat.lt_of_lt_of_le hg hb.size, hc, fun i h => by rw [(bcell hb).1 _ _ hg]; exact hi i h⟩
theorem KL.form {K : IntKind} {w : World} {v : Value} {l : List Nat} {n : Nat} (h : KL K w v l) (hn : l.length = n) : ∃ A cap, v = .slice A n cap ∧
 ∀ w1 i, Below w.heap.size w w1 → i < n → ∃ g off, A = some ⟨g, off, none⟩ ∧ n ≤ cap ∧ g < w1.heap.size ∧ w1.cell? ⟨g, off + i, none⟩ = some (.int K (l.getD i 0 : Nat)) := by
 obtain ⟨A, cap, hv, h⟩ := h
 refine ⟨A, cap, by rw [hv, hn], fun w1 i hb hi => ?_⟩
 obtain ⟨g, off, hA, hg, hc, hcell⟩ := h (by omega)
 refine ⟨g, off, hA, by omega, Nat.lt_of_lt_of_le hg hb.size, ?_⟩
 rw [(bcell hb).1 _ _ hg]; exact hcell i (by omega)
def BL (l : List Nat) : Prop := ∀ x ∈ l, x < 256
theorem BL.at {l : List Nat} (h : BL l) (i : Nat) (hi : i < l.length) : l.getD i 0 < 256 := by
 rw [List.getD_eq_getElem?_getD, List.getElem?_eq_getElem hi]
 exact h _ (List.getElem_mem hi)
theorem words_any (v u : Value) (l m : List Nat) (w : World) (hlen : l.length ≤ 1000000) (hv : KL .u64 w v l) (hu : KL .u64 w u m) :
 Calls Tryz.prog 23 #[v, u] w fun e w' => e = .returned (.bool (decide (l = m))) ∧ Below w.heap.size w w' := by
 obtain ⟨n, hn⟩ : ∃ n, l.length = n := ⟨_, rfl⟩
 obtain ⟨n2, hn2⟩ : ∃ n, m.length = n := ⟨_, rfl⟩
 obtain ⟨A, cap, rfl, hC⟩ := hv.form hn
 obtain ⟨A2, cap2, rfl, hC2⟩ := hu.form hn2
 have hne := lh (fun (h : ¬ l = m) => show decide (l = m) = false from decide_eq_false h)
 by_cases hnn : n = n2
 rotate_left
 ·have hR := lh (hne.out (fun h => hnn (by rw [← hn, ← hn2, h])))
  have f1 : ((n : Int) != (n2 : Int)) = true := by rw [bne_iff_ne]; omega
  clear hn hn2 hv hu hC hC2 hnn
  go_enter Tryz.func23, Tryz.ntmps23
  go_wp2_with fail
  go_ret
  exact ⟨by rw [hR.out]; rfl, Below.refl _ _⟩
 subst hnn
 have hyes := lh (fun (h : ∀ j, j < n → l.getD j 0 = m.getD j 0) => show decide (l = m) = true from by
  refine decide_eq_true ?_
  apply List.ext_getElem (by omega)
  intro i h1 h2
  have := h i (by omega)
  rwa [List.getD_eq_getElem?_getD, List.getD_eq_getElem?_getD, List.getElem?_eq_getElem h1, List.getElem?_eq_getElem h2] at this)
 replace hC := lh hC
 replace hC2 := lh hC2
 have hlen' : n ≤ 1000000 := by omega
 clear hlen
 replace hn := lh hn
 replace hn2 := lh hn2
 go_enter Tryz.func23, Tryz.ntmps23
 go_wp2_with fail
 go_loopw [5] (fun i wr => ∃ k : Nat, k ≤ n ∧ i = .int .i64 k ∧ Hid (∀ j, j < k → l.getD j 0 = m.getD j 0) ∧ Below w.heap.size w wr) (fun i _ => n + 1 - (intOf i).toNat)
 case atStart => exact ⟨0, Nat.zero_le _, rfl, (fun j hj => by omega), Below.refl _ _⟩
 obtain ⟨k, hk, rfl, hF, hB⟩ := hrel
 by_cases hlt : k < n
 rotate_left
 ·obtain rfl : k = n := by omega
  have hR := lh (hyes.out hF.out)
  go_wp2_with fail
  go_ret
  exact ⟨by rw [hR.out]; rfl, hB⟩
 obtain ⟨g, off, rfl, hcap, hg, c0⟩ := hC.out wr k hB hlt
 obtain ⟨g2, off2, rfl, hcap2, hg2, d0⟩ := hC2.out wr k hB hlt
 have hlt' : (k : Int) < (n : Int) := by omega
 have hF2 := lh (fun (h : l.getD k 0 = m.getD k 0) j (hj : j < k + 1) => show l.getD j 0 = m.getD j 0 from by
  by_cases e : j = k
  ·subst e; exact h
  exact hF.out j (by omega))
 have hF3 := lh (fun (h : ¬ l.getD k 0 = m.getD k 0) => show decide (l = m) = false from decide_eq_false (fun q => h (by rw [q])))
 generalize l.getD k 0 = a at *
 generalize m.getD k 0 = c at *
 by_cases hac : a = c
 ·subst hac
  have hR := lh (hF2.out rfl)
  go_wp2_with fail
  go_region
  all_goals (try go_wp2_with fail)
  go_roundw
  case rel => exact ⟨k + 1, by omega, by go_num, hR, hB.drew⟩
  simp [intOf]; omega
 have hR := lh (hF3.out hac)
 have f1 : ((a : Int) == (c : Int)) = false := by rw [beq_eq_false_iff_ne]; omega
 have f2 : ((a : Int) != (c : Int)) = true := by rw [bne_iff_ne]; omega
 go_wp2_with fail
 go_region
 all_goals (try go_wp2_with fail)
 all_goals
  go_ret
  exact ⟨by rw [hR.out]; rfl, hB.drew⟩
theorem cell_new1 (W : World) (v : Value) (t : TypeId) : (W.alloc (.cells #[v] t)).cell? ⟨W.heap.size, 0, none⟩ = some v := by simp [go_sem]
theorem appU {w : World} {base g k y : Nat} {v : Value} {xs : List Value} (hown : w.ownsRow base 40 1 v k xs) (hx : w.cell? ⟨g, 0, none⟩ = some (.int .u64 y)) (hb : base ≤ w.heap.size) (hsm : k ≤ 1000000) :
 ∃ v' w', (Builtin.append_ #[25, 25] 25 #[v, .slice (some ⟨g, 0, none⟩) 1 1]).run Tryz.prog w = .ok v' w' ∧ w'.ownsRow base 40 1 v' (k + 1) (xs ++ [.int .u64 y]) ∧ w.grownBy w' v.ownBlock ∧ (v'.ownBlock = v.ownBlock ∨ v'.ownBlock = some w.heap.size) := by
 obtain ⟨i0, hi, hz0, hz1, hz2⟩ := info_parts infoU64
 obtain ⟨v', w', hrun, h1, h2, _, h4⟩ := run_append_own_at (P := Tryz.prog) w base 25 25 40 i0 (.int .u64 0) 1 8 Tryz.underlying25 hi hz0 hz1 hz2 rfl (by decide) v k xs hown ⟨g, 0, none⟩ 1 1 [.int .u64 y] rfl
  (fun j u hj => by
    match j, hj with
    | 0, hj => simp only [List.getElem?_cons_zero] at hj; rw [← hj]; simpa [Addr.add] using hx
    | j + 1, hj => simp at hj) (by simp [Value.oneCell']) (by unfold maxLen; omega) (by omega) hb
 exact ⟨v', w', hrun, h1, h2, h4⟩
def OwnU (w : World) (base : Nat) (v : Value) (l : List Nat) : Prop := w.ownsRow base 40 1 v l.length (l.map fun x : Nat => Value.int .u64 x)
theorem OwnU.kl {w : World} {base : Nat} {v : Value} {l : List Nat} (h : OwnU w base v l) : KL .u64 w v l := by
 have h' := h
 rcases h.2 with ⟨hv, hn⟩ | ⟨g, cap, cur, hv, hb, hg, h1, h2, h3, h4⟩
 ·have : l = [] := by simpa using hn
  subst this
  exact ⟨none, 0, hv, fun h => by simp at h⟩
 subst hv
 refine ⟨some ⟨g, 0, none⟩, cap, rfl, fun _ => ⟨g, 0, rfl, (Array.getElem?_eq_some_iff.1 hg).1, h1, fun i hi => ?_⟩⟩
 rw [Nat.zero_add]
 rw [World.ownsRow.cellAt h' i (by omega)]
 simp [List.getD_eq_getElem?_getD, List.getElem?_eq_getElem hi]
theorem OwnU.mono {w : World} {base b2 : Nat} {v : Value} {l : List Nat} (h : OwnU w base v l) (hb : b2 ≤ base) : OwnU w b2 v l := by
 refine ⟨h.1, ?_⟩
 rcases h.2 with h2 | ⟨g, cap, cur, hv, hbg, hg, h1, h2, h3, h4⟩
 ·exact .inl h2
 exact .inr ⟨g, cap, cur, hv, by omega, hg, h1, h2, h3, h4⟩
theorem OwnU.keep {w w1 : World} {base : Nat} {v : Value} {l : List Nat} (h : OwnU w base v l) (hb : Below w.heap.size w w1) : OwnU w1 base v l := by
 refine ⟨h.1, ?_⟩
 rcases h.2 with h2 | ⟨g, cap, cur, hv, hbg, hg, h1, h2, h3, h4⟩
 ·exact .inl h2
 exact .inr ⟨g, cap, cur, hv, hbg, by rw [hb.block g (Array.getElem?_eq_some_iff.1 hg).1]; exact hg, h1, h2, h3, h4⟩
theorem appW {w : World} {base : Nat} {v u : Value} {l m : List Nat} (hown : OwnU w base v l) (ha : KL .u64 w u m) (hb : base ≤ w.heap.size) (hsm : l.length ≤ 1000000) (hsm2 : m.length ≤ 1000000) :
 ∃ v' w', (Builtin.append_ #[25, 25] 25 #[v, u]).run Tryz.prog w = .ok v' w' ∧ OwnU w' base v' (l ++ m) ∧ Below base w w' := by
 obtain ⟨i0, hi, hz0, hz1, hz2⟩ := info_parts infoU64
 have ht : Tryz.prog.underlying 25 = some (.slice 40) := Tryz.underlying25
 obtain ⟨A, cap, rfl, h⟩ := ha
 cases m with
 | nil =>
   refine ⟨v, w, ?_, by simpa using hown, Below.refl _ _⟩
   rcases hown.2 with ⟨rfl, _⟩ | ⟨g, cap', cur, rfl, _, _, hnc, _⟩
   ·cases A <;> simp [Builtin.append_, run_underlying ht, sizeOf, typeInfo, hi, Builtin.lenOf, Builtin.firstCells, loadCells, loadCellsFrom, storeCells]
   cases A <;> simp [Builtin.append_, run_underlying ht, sizeOf, typeInfo, hi, Builtin.lenOf, Builtin.firstCells, hnc, loadCells, loadCellsFrom, storeCells]
 | cons x m =>
   obtain ⟨g, off, rfl, hg, hc, hcell⟩ := h (by simp)
   obtain ⟨v', w', hrun, k1, k2, _, k4⟩ := run_append_own_at (P := Tryz.prog) w base 25 25 40 i0 (.int .u64 0) 1 8 Tryz.underlying25 hi hz0 hz1 hz2 rfl (by decide) v l.length _ hown ⟨g, off, none⟩ (x :: m).length cap ((x :: m).map fun x : Nat => Value.int .u64 x) (by simp)
    (fun j u hj => by
      have hj2 : j < (x :: m).length := by have := (List.getElem?_eq_some_iff.1 hj).1; simpa using this
      have c0 := hcell j hj2
      rw [List.getElem?_map, List.getElem?_eq_getElem hj2] at hj
      rw [List.getD_eq_getElem?_getD, List.getElem?_eq_getElem hj2] at c0
      simp only [Option.map_some, Option.some.injEq] at hj
      rw [← hj]
      rw [add_plain]; exact c0) (by intro u hu; obtain ⟨y, _, rfl⟩ := List.mem_map.1 hu; rfl) (by unfold maxLen; omega) (by omega) hb
   refine ⟨v', w', hrun, ?_, (Below.refl base w).grown k2 hb (fun j hj => (World.ownsRow.lt hown j hj).1)⟩
   unfold OwnU
   rw [List.length_append, List.map_append]
   exact k1
theorem newW {w : World} {u : Value} {l : List Nat} (h1 : KL .u64 w u l) (l1 : l.length ≤ 100000) :
 ∃ v1 w1, (Builtin.append_ #[25, 25] 25 #[.slice (some ⟨w.heap.size, 0, none⟩) 0 0, u]).run Tryz.prog (w.alloc (.cells #[] (40 : Nat))) = .ok v1 w1 ∧ OwnU w1 w.heap.size v1 l ∧ Below w.heap.size w w1 := by
 have hO : OwnU (w.alloc (.cells #[] (40 : Nat))) w.heap.size (.slice (some ⟨w.heap.size, 0, none⟩) 0 0) [] := World.ownsRow_lit (base := w.heap.size) (e := 40) (size := 1) w #[] 0 (Nat.le_refl _) (by unfold maxLen; omega) rfl
 have hB : Below w.heap.size w (w.alloc (.cells #[] (40 : Nat))) := bZ _ _
 obtain ⟨v1, w1, r1, o1, b1⟩ := appW hO (h1.keep hB) hB.size (by simp) (by omega)
 exact ⟨v1, w1, r1, by simpa using o1, hB.trans b1⟩
theorem clone_any (v : Value) (l : List Nat) (w : World) (hlen : l.length ≤ 100000) (hv : KL .u64 w v l) :
 Calls Tryz.prog 66 #[v] w fun e w' => ∃ v', e = .returned v' ∧ OwnU w' w.heap.size v' l ∧ Below w.heap.size w w' := by
 obtain ⟨v1, w1, hrun, ho, hb⟩ := newW hv hlen
 obtain ⟨A, cap, rfl, h⟩ := hv
 cases A with
 | none =>
   have hl0 : l = [] := by
    cases l with
    | nil => rfl
    | cons x l => obtain ⟨g, off, h0, _⟩ := h (by simp); cases h0
   subst hl0
   clear h hrun ho hb
   have qT : ∀ (w : World) (a : Option Addr) (n c n' c' : Nat), (binOp .eql 25 (.slice a n c) (.slice none n' c')).run Tryz.prog w = .ok (.bool a.isNone) w := fun w a n c n' c' => Lib.run_eql_slice_nil w _ _ a n c n' c' Tryz.underlying25
   go_enter Tryz.func66, Tryz.ntmps66
   go_wp2_with fail
   go_ret
   exact ⟨_, rfl, World.ownsRow_nil _ _ _ _, Below.refl _ _⟩
 | some a =>
   obtain ⟨g, off, s⟩ := a
   generalize l.length = n at *
   clear h
   have qT : ∀ (w : World) (a : Option Addr) (n c n' c' : Nat), (binOp .eql 25 (.slice a n c) (.slice none n' c')).run Tryz.prog w = .ok (.bool a.isNone) w := fun w a n c n' c' => Lib.run_eql_slice_nil w _ _ a n c n' c' Tryz.underlying25
   go_enter Tryz.func66, Tryz.ntmps66
   go_wp2_with (at_builtin; refine wpList_append_run rfl _ _ 25 rfl _ _ _ rfl rfl hrun ?_)
   go_ret
   exact ⟨_, rfl, ho, hb⟩
theorem run_slice_to {P : Program} {ty e : TypeId} {i0 : TypeInfo} (hu : P.underlying ty = some (.slice e)) (hi : P.info? e = some i0) (A : Option Addr) (n cap t : Nat) (h : t ≤ cap) (w : World) :
 (Instr.slice ty (.slice A n cap) none (some (.int .i64 (t : Int))) none).run P w = .ok (.slice A t cap) w := by
 have h1 : (t : Int) ≤ (cap : Int) := by omega
 have h2 : (0 : Int) ≤ (t : Int) := by omega
 simp [Instr.slice, run_underlying hu, Instr.sliceBounds, Instr.sliceBound, asIntOf, sizeOf, typeInfo, hi, h2, go_sem]
 exact fun h' => by omega
theorem wordsK_open {H : Type} {enc : TypeId × Value → H} {P : Program} {W : World} {t e : TypeId} (ht : P.underlying t = some (.slice e)) (he : P.underlying e = some (.int .u64)) (hc : P.cellsOf e = 1) {ad : Option Addr} {len cap : Nat} {d : DataW H} {p : List MemPlace}
 (h : DataW.Trod enc P W 0 (fun _ => true) true t (.slice ad len cap) d p) : ∃ l : List Nat, WL l ∧ KL .u64 W (.slice ad len cap) l := by
 obtain ⟨fuel, hf⟩ := h
 rcases open_ints ht he hc hf with ⟨hcs, _⟩ | ⟨a, len', cap', zs, hcs, _, hl, hm, hz, _, hcell, hwz⟩
 ·simp [Value.cells] at hcs
  obtain ⟨rfl, rfl, rfl⟩ := hcs
  exact ⟨[], fun x hx => by simp at hx, none, 0, rfl, fun h => by simp at h⟩
 simp [Value.cells] at hcs
 obtain ⟨rfl, rfl, rfl⟩ := hcs
 simp only [if_true] at hz
 have hb : ∀ z ∈ zs, 0 ≤ z ∧ z ≤ 18446744073709551615 := fun z hz => bounds_u64 (hwz z hz)
 have hlen : ((zs.take len).map Int.toNat).length = len := by simp; omega
 refine ⟨(zs.take len).map Int.toNat, fun x hx => ?_, some a, cap, by rw [hlen], fun h0 => ?_⟩
 ·obtain ⟨z, hz1, rfl⟩ := List.mem_map.1 hx
  have := hb z (List.mem_of_mem_take hz1)
  omega
 rw [hlen] at h0 ⊢
 have hc0 := hcell 0 (by omega)
 have hsp : a.spot = none := by
  have := spot_none hc0
  unfold Addr.add at this
  simpa using this
 obtain ⟨g, off, sp⟩ := a
 simp only at hsp
 subst hsp
 refine ⟨g, off, rfl, ?_, by omega, fun i hil => ?_⟩
 ·have := World.block_lt_of_cell? _ _ hc0
  simpa [add_plain] using this
 have := hcell i (by omega)
 rw [add_plain] at this
 rw [this]
 have hzi : i < zs.length := by omega
 have e1 : ((zs.take len).map Int.toNat).getD i 0 = (zs[i]).toNat := by
  rw [List.getD_eq_getElem?_getD, List.getElem?_map, List.getElem?_take, if_pos hil, List.getElem?_eq_getElem hzi]
  rfl
 have e2 : zs.getD i 0 = zs[i] := by rw [List.getD_eq_getElem?_getD, List.getElem?_eq_getElem hzi]; rfl
 rw [e1, e2, Int.toNat_of_nonneg (hb _ (List.getElem_mem hzi)).1]
theorem post_of_below_any {H : Type} {enc : TypeId × Value → H} {P : Program} {f : Func} {s : ChangeSpec} {apart fresh handsOn again : Bool} {W W' : World} {args : Array Value} {v : Value} {ds gs : List (DataW H)} {before pa pv : List MemPlace}
 (hW : DataW.Whole enc P f.params.toList s.vars apart W args.toList ds gs before)
 (hres : ∀ (b : Nat) (sp : Nat → Bool) (hd : Bool), DataW.TrodAll enc P W' b sp hd f.resultTypes.toList (v.resultList f.resultTypes.size) (s.fn H (ds ++ gs)).results [])
 (hargs : ∀ sp : Nat → Bool, (∀ p ∈ before, sp p.block = true) → DataW.TrodAll enc P W' 0 sp true f.params.toList args.toList (s.fn H (ds ++ gs)).args pa)
 (hvars : ∀ sp : Nat → Bool, (∀ p ∈ before, sp p.block = true) → DataW.TrodVars enc P W' sp s.vars (s.fn H (ds ++ gs)).vars pv)
 (hps : before = pa ++ pv) (hb : Below W.heap.size W W')
 (hok : ∀ (j : Nat) (t : TypeId) (r : Value), f.resultTypes[j]? = some t → (v.resultList f.resultTypes.size)[j]? = some r → Value.okWide P W' .any 0 t r) :
 s.post enc P f apart fresh handsOn again W args v W' :=
 post_of_below hW hres hargs hvars hps hb hok
end Go.Proofs.YtkkbngcgphlikaaGreatDoor
