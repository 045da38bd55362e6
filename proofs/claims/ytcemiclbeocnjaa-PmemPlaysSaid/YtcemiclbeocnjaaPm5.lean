/-
  Layer 3 (pmem): the code's Dirty.
-/
import Derived.Test.YtcemiclbeocnjaaPm4
set_option linter.unusedVariables false
set_option linter.unusedSimpArgs false
namespace Go.Proofs.Ytcemiclbeocnjaa
open Go.RowKit Go.ChangeShapes Go.WideShapes Go.Deep Go.Maps Go.Sort Go.Shelf
attribute [local go_sem] Oper.semAt_some

set_option maxRecDepth 10000 in
set_option maxHeartbeats 2000000 in
theorem dirty_in (n : Nat) (hn : 3 ≤ n) (B : Nat) (F : Nat → Prop) (s : Dv) (w : World) (h : DvAt w B F s) (hg : GoodD s) :
    CallsIn Fence.wide n Try.prog 20 #[.pointer (some ⟨B, 0, none⟩)] w fun e w' => ∃ v, e = .returned v ∧ OwnE 3 1 iE w' w.heap.size v (keysL s.L.length s.c) ∧ Below w.heap.size w w' := by
  have hn1 : 1 ≤ n := by omega
  obtain ⟨C, M, v0, hR⟩ := h
  obtain ⟨⟨c0, c1, c2, c3, c4, c5⟩, fz⟩ := hR.cells
  have hKs := Lib.hid (keysL_keys s.L.length s.c hg.cin)
  have hKl := keysL_len s.L.length s.c
  have hlen := hg.len
  have hsn := Lib.hid hg.n
  generalize keysL s.L.length s.c = K0 at *
  have hK2 := keysOf_map s.c K0 hKs.out
  generalize keysOf s.c K0 hKs.out = K at *
  subst hK2
  rw [List.length_map] at hKl
  have hCm := Lib.hid hR.cach
  have hCl := Lib.hid (hR.lt _ hR.fC)
  have hBlt := hR.lt _ hR.fB
  clear hR fz c0 c2 c3 c4 c5 hg
  refine callsIn_of_wp_marks Try.func20 rfl trivial ?_ rfl
  simp only [Try.ntmps20, List.size_toArray, List.length_cons, List.length_nil, Nat.reduceAdd, Nat.reduceSub, Array.replicate_succ, Array.replicate_zero, List.push_toArray, List.append_toArray, List.nil_append, List.cons_append]
  gi_wp2
  refine ⟨trivial, (places_in (n - 1) C _).mono ?_⟩
  rintro e w' ⟨rfl, rfl⟩
  gi_wp2
  have bO := (Boxed.new w 43 (.slice none 0 0)).alloc (.cells #[.map (some C)] 92)
  have bM := Boxed.new (w.alloc (.cells #[.slice none 0 0] 43)) 92 (.map (some C))
  have hB0 : Below w.heap.size w ((w.alloc (.cells #[.slice none 0 0] 43)).alloc (.cells #[.map (some C)] 92)) := ((Below.refl _ w).alloc (Nat.le_refl _) _).alloc (by simp) _
  have hsz : ((w.alloc (.cells #[.slice none 0 0] 43)).alloc (.cells #[.map (some C)] 92)).heap.size = w.heap.size + 2 := by simp
  simp only [World.size_alloc] at bO bM
  obtain ⟨W0, hW0⟩ : ∃ W0, W0 = (((w.alloc (.cells #[.slice none 0 0] 43)).alloc (.cells #[.map (some C)] 92)) : World) := ⟨_, rfl⟩
  rw [← hW0] at bO bM hB0 hsz ⊢
  clear hW0
  have hCm0 := hCm.out.keep hB0
  refine wpIn_rangeFunc_ownG rfl hn1 (gf := 85) (lb := #[.pointer (some ⟨w.heap.size + 1, 0, none⟩)]) rfl trivial (enters_of Try.func85 (by kernel_rfl) rfl)
    (pl_stops (n - 1) (by omega) w.heap.size (w.heap.size + 1) (w.heap.size + 2) C s.n s.c K hKs.out W0 (by omega) (ownLt_of bO (by simp [Value.ownBlock])) bM.cell hCm0 (by have := hsn.out; omega) (by omega))
    kq_t (kq_b (by omega)) (Below.refl _ _) (fun _ => rfl)
    (fun pre W => (∃ v, Boxed W w.heap.size 43 v ∧ W.ownsRow w.heap.size 3 1 v (pre : List (Key s.c)).length ((pre.map fun y => y.1).flatMap iE) ∧ True) ∧ Below w.heap.size w W)
    (fun _ _ _ => False)
    (OwnFrom.and (Own.from (holdsRow_own w.heap.size w.heap.size 43 3 1 (fun pre : List (Key s.c) => pre.length) (fun pre => (pre.map fun y => y.1).flatMap iE) (fun pre v => True)) _) (ownFrom_below (Nat.le_refl _) (by omega)))
    (fun _ _ _ _ _ hs _ _ => hs)
    ⟨⟨_, bO, World.ownsRow_nil _ _ _ _, trivial⟩, hB0⟩
    (fun y => { tmps := #[.pointer (some ⟨B, 0, none⟩), undef, .slice none 0 0, .pointer (some ⟨w.heap.size, 0, none⟩), .int .i64 y.1, .pointer (some ⟨B, 0, none⟩), .pointer (some ⟨B, 0, none⟩), .pointer (some ⟨B, 1, none⟩), .map (some C), .func (.func 85) #[] #[.pointer (some ⟨w.heap.size + 1, 0, none⟩)], .int .i64 y.1, undef, undef, undef, undef, undef], defers := [] }) ?assign ?body ?done ?stop
  case assign =>
    intro l y W Kc hK
    gi_wp2
    simpa using hK
  case body =>
    rintro l pre y W ⟨⟨v, hv, hrow, _⟩, hB⟩ hlt
    have hc := hv.cell
    have hpl : pre.length ≤ 1000000 := by omega
    have hne := hv.not_row (e := 3) (by decide) hrow
    have hrow' : OwnE 3 1 iE (W.alloc (.cells #[.int .i64 y.1] (3 : Nat))) w.heap.size v (pre.map fun y => y.1) := by
      refine OwnE.alloc ?_ _
      unfold OwnE
      rw [List.length_map]
      exact hrow
    obtain ⟨v', w1, hrun, hown', hgrow, hl2, _⟩ := appE iT hrow' (one_int W y.1) (by have := hB.size; simp; omega) (by rw [List.length_map]; exact hpl) (by simp)
    obtain ⟨g', cap', rfl, _⟩ := hown'.form (by simp)
    unfold OwnE at hown'
    rw [show (pre.map fun y => y.1) ++ [y.1] = (pre ++ [y]).map fun y => y.1 by rw [List.map_append]; rfl, List.length_map] at *
    obtain ⟨hv1, hv2, hr2, hk2, hb2⟩ := hv.appended (by decide) hrow hB.size (Nat.le_refl _) hown' hgrow
    have hkq := kq_body (n₀ := w.heap.size + 2) hv (by omega) hgrow hl2 hne (fun g q => (hown'.lt g q).2)
    have hc1 := hv1.cell
    have hf1 := hv1.frozen
    clear hgrow hrow' hown'
    rw [List.length_append, List.length_singleton] at *
    gi_wp2_with (gi_at_builtin; refine wpListIn_append_run rfl _ _ 43 rfl _ _ _ rfl rfl hrun ?_)
    exact ⟨hk2.from _, hkq, ⟨_, hv2, by rw [List.length_append, List.length_singleton]; exact hr2, trivial⟩, hB.trans hb2⟩
  case done =>
    rintro D ys W hD rfl ⟨⟨v, hv, hrow, _⟩, hB⟩ hK
    have hc := hv.cell
    gi_wp2
    refine ⟨by simp, .inl ⟨_, _, rfl, run_takeDeferred hK, ?_⟩⟩
    exact ⟨_, results_tmp rfl _ _ _, v, rfl, (by unfold OwnE; rw [List.length_map]; exact ownsRow_putObj hrow (.deferred none) hK rfl), hB.trans (belowK_b (w := w) (Nat.le_refl _) W D _ _ (by omega) hK rfl rfl)⟩
  case stop =>
    rintro D c pre W _ _ h _
    exact h.elim
theorem dDirty (B : Nat) (F : Nat → Prop) (s : Dv) (w : World) (h : DvAt w B F s) (hg : GoodD s) :
    Calls Try.prog 20 #[.pointer (some ⟨B, 0, none⟩)] w fun e w' => ∃ v, e = .returned v ∧ OwnE 3 1 iE w' w.heap.size v (keysL s.L.length s.c) ∧ Below w.heap.size w w' := callsIn_wide.1 (dirty_in 3 (by omega) B F s w h hg)
end Go.Proofs.Ytcemiclbeocnjaa
