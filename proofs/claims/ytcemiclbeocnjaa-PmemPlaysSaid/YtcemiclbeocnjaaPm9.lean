/-
  Layer 3 (pmem): the code's New, Open.
-/
import Derived.Test.YtcemiclbeocnjaaPm8
import Derived.Laws.CopyOwn
set_option linter.unusedVariables false
set_option linter.unusedSimpArgs false
namespace Go.Proofs.Ytcemiclbeocnjaa
open Go.RowKit Go.ChangeShapes Go.WideShapes Go.Deep Go.Maps

theorem wpList_copy_run {P : Program} {w w' : World} {ops : Array Oper} {rest : List Oper} {o : Oper} {a : Act} {Q : Exit → Act → World → Prop} (hg : o.guard = none) (s x : Operand) (t : TypeId)
    (hop : o.op = Op.call { callee := Callee.builtin Builtin.copy, args := #[s, x], argTypes := #[t, t] }) (vs vx v : Value) (hs : a.eval s = vs) (hx : a.eval x = vx)
    (hrun : (Builtin.copy_ #[t, t] o.type #[vs, vx]).run P w = .ok v w') (h : wpList P ops Q rest (a.put o.dst v) w') : wpList P ops Q (o :: rest) a w := by
  refine wpList_plain hg fun K hK => ?_
  unfold Oper.wp
  simp [execOp, hop, resolve, invoke, builtin, hs, hx, hrun, Result.andThen]
  exact hK _ _ h
theorem infoU64s : (Try.prog.info? 32).map (·.size) = some 1 := by kernel_rfl
theorem copyU {w : World} {base g n cap : Nat} {xs l : List Nat} {u : Value} (h : OwnU w base (.slice (some ⟨g, 0, none⟩) n cap) xs) (hn : xs.length = n) (hl : l.length = n) (h0 : 0 < n) (hu : KL .u64 w u l) (ty : TypeId) :
    ∃ w', (Builtin.copy_ #[22, 22] ty #[.slice (some ⟨g, 0, none⟩) n cap, u]).run Try.prog w = .ok (goInt n) w' ∧ OwnU w' base (.slice (some ⟨g, 0, none⟩) n cap) l ∧ w.grownBy w' (some g) := by
  obtain ⟨A, sc, rfl, hC⟩ := hu
  obtain ⟨g2, off, rfl, hg2, hc2, hcell⟩ := hC (by omega)
  rcases h.2 with ⟨hv, _⟩ | ⟨g', cap', cur, hv, hb, hg, h1, h2, h3, h4⟩
  · cases hv
  obtain ⟨e1, e2⟩ : g = g' ∧ cap = cap' := by cases hv; exact ⟨rfl, rfl⟩
  subst e1
  subst e2
  have hcl : (l.map fun x : Nat => Value.int .u64 x).length = n := by simp [hl]
  rw [hn] at h1 h4
  rw [Nat.mul_one] at h3 h4
  have hrun := run_copy_row (P := Try.prog) w 22 22 ty 32 g 0 n cap ⟨g2, off, none⟩ l.length sc cur 32 (l.map fun x : Nat => Value.int .u64 x) Try.underlying22 infoU64s hg (by rw [hcl, hl]; exact (Nat.min_self n).symm) (fun j v hj => by
    rw [List.getElem?_map] at hj
    cases hq : l[j]? with
    | none => rw [hq] at hj; cases hj
    | some y =>
      rw [hq] at hj
      cases hj
      obtain ⟨hj1, hj2⟩ := List.getElem?_eq_some_iff.1 hq
      rw [show (⟨g2, off, none⟩ : Addr).add j = ⟨g2, off + j, none⟩ from by simp [Addr.add], hcell j hj1, List.getD_eq_getElem?_getD, hq]
      rfl) (by rw [hcl]; omega) (fun v hv => by
    obtain ⟨y, _, rfl⟩ := List.mem_map.1 hv
    rfl)
  rw [hcl] at hrun
  refine ⟨_, hrun, ⟨by rw [List.length_map, Nat.mul_one], .inr ⟨g, cap, _, by rw [hl], hb, setRow_heap w g _ _ _ _ hg, by omega, h2, ?_, ?_⟩⟩, ⟨rfl, rfl, rfl, by simp [World.setRow], fun k _ hk => setRow_other w g k _ (fun e => hk (by rw [e]))⟩⟩
  · simp only [List.size_toArray, List.length_append, List.length_take, List.length_drop, Array.length_toList, hcl]; omega
  · rw [hl, Nat.mul_one]
    simp [hcl, hl, List.take_append, List.take_of_length_le]

/-- a new device, with these lasting words -/
def OpenedP (l : List Nat) (w : World) (e : Ending) (w' : World) : Prop := ∃ B F, e = .returned (.tuple #[.pointer (some ⟨B, 0, none⟩), .int .i64 0]) ∧ DvAt w' B F (dv0 l) ∧ (∀ k, F k → w.heap.size ≤ k) ∧ Below w.heap.size w w'
def newD (words : Nat) : Dv := dv0 (List.replicate words 0)
set_option maxRecDepth 10000 in
set_option maxHeartbeats 2000000 in
theorem dNew_no (words : Int) (w : World) (h : words < 1 ∨ 65536 < words) :
    Calls Try.prog 28 #[.int .i64 words] w fun e w' => e = .returned (.tuple #[.pointer none, .int .i64 1]) ∧ w' = w := by
  by_cases h1 : words < 1
  · clear h
    go_enter Try.func28, Try.ntmps28
    go_wp2_with fail
    go_ret2
    exact ⟨rfl, rfl⟩
  · have h2 : 65536 < words := by omega
    have h3 : ¬ words < 1 := h1
    clear h
    go_enter Try.func28, Try.ntmps28
    go_wp2_with fail
    go_ret2
    exact ⟨rfl, rfl⟩
set_option maxRecDepth 10000 in
set_option maxHeartbeats 2000000 in
theorem dNew (n : Nat) (w : World) (h1 : 1 ≤ n) (h2 : n ≤ 65536) :
    Calls Try.prog 28 #[.int .i64 n] w (OpenedP (List.replicate n 0) w) := by
  obtain ⟨i0, hi, hz0, hz1, hz2⟩ := info_parts infoU64
  have hmm := @run_makeMap Try.prog
  have k1 : ¬ (n : Int) < 1 := by omega
  have k2 : ¬ 65536 < (n : Int) := by omega
  go_enter Try.func28, Try.ntmps28
  go_wp2_with (at_make; refine wpList_make_full _ rfl _ _ 22 rfl w.heap.size 32 i0 (.int .u64 0) 1 Try.underlying22 hi hz0 hz1 .i64 .i64 _ _ n rfl rfl rfl rfl (by rw [hz2]; omega) (by unfold maxLen; omega) (Nat.le_refl _) ?_; intro w1 hown hgr; replace hown := Lib.hid hown; replace hgr := Lib.hid hgr)
  go_ret2
  have hw1 : Below w.heap.size w w1 := (Below.refl _ w).grown hgr.out (Nat.le_refl _) (by simp)
  have hO : OwnU w1 w.heap.size (.slice (some ⟨w.heap.size, 0, none⟩) n n) (List.replicate n 0) := by
    have q := hown.out
    rw [show (madeCells (Value.int IntKind.u64 0).cells (n * 1)).toList = List.replicate n (Value.int .u64 0) by rw [Nat.mul_one]; exact toList_madeCells_one _ _] at q
    unfold OwnU
    rw [List.length_replicate, List.map_replicate]
    exact q
  have hs1 : w.heap.size < w1.heap.size := (hO.lt w.heap.size rfl).2
  have hA1 : Below w1.heap.size w1 (w1.alloc (.map #[] 0)) := (Below.refl _ _).alloc (Nat.le_refl _) _
  have hA2 : Below (w1.alloc (.map #[] 0)).heap.size (w1.alloc (.map #[] 0)) ((w1.alloc (.map #[] 0)).alloc (.map #[] 0)) := (Below.refl _ _).alloc (Nat.le_refl _) _
  obtain ⟨W2, hW2⟩ : ∃ W2, (w1.alloc (.map #[] 0)).alloc (.map #[] 0) = W2 := ⟨_, rfl⟩
  have hm1 := MapU.new w1
  have hm2 := MapU.new (w1.alloc (.map #[] 0))
  have hs2 : (w1.alloc (.map #[] 0)).heap.size = w1.heap.size + 1 := World.size_alloc _ _
  rw [hs2] at hm2
  have hs3 : ((w1.alloc (.map #[] 0)).alloc (.map #[] 0)).heap.size = w1.heap.size + 2 := by rw [World.size_alloc, World.size_alloc]
  have hA3 : Below ((w1.alloc (.map #[] 0)).alloc (.map #[] 0)).heap.size ((w1.alloc (.map #[] 0)).alloc (.map #[] 0)) (((w1.alloc (.map #[] 0)).alloc (.map #[] 0)).alloc (.cells (dvc (.slice (some ⟨w.heap.size, 0, none⟩) n n) w1.heap.size (w1.heap.size + 1) (newD n)) (94 : Nat))) := (Below.refl _ _).alloc (Nat.le_refl _) _
  have hb1 := World.alloc_heap_new ((w1.alloc (.map #[] 0)).alloc (.map #[] 0)) (.cells (dvc (.slice (some ⟨w.heap.size, 0, none⟩) n n) w1.heap.size (w1.heap.size + 1) (newD n)) (94 : Nat))
  rw [hs3] at hb1
  change OpenedP (newD n).L w _ _
  refine ⟨_, fun k => k = w1.heap.size + 2 ∨ k = w1.heap.size ∨ k = w1.heap.size + 1 ∨ k = w.heap.size, rfl, ⟨w1.heap.size, w1.heap.size + 1, .slice (some ⟨w.heap.size, 0, none⟩) n n, ⟨hb1, ?_, ?_, ?_, by omega, .inl rfl, .inr (.inl rfl), .inr (.inr (.inl rfl)), fun k e => .inr (.inr (.inr (by cases e; rfl))), fun k e => ?_⟩⟩, fun k e => by omega, ?_⟩
  · exact (((hO.keep hA1).keep hA2).keep hA3).mono (Nat.zero_le _)
  · exact (hm1.keep hA2).keep hA3
  · exact hm2.keep hA3
  · rw [World.size_alloc, hs3]; omega
  · exact hw1.trans (((hA1.trans (hA2.mono (by omega))).trans (hA3.mono (by omega))).mono (by omega))

set_option maxRecDepth 10000 in
set_option maxHeartbeats 2000000 in
theorem dOpen_no (A : Option Addr) (cap : Nat) (w : World) :
    Calls Try.prog 13 #[.slice A 0 cap] w fun e w' => e = .returned (.tuple #[.pointer none, .int .i64 1]) ∧ w' = w := by
  have hN := dNew_no 0 w (by omega)
  go_enter Try.func13, Try.ntmps13
  go_wp2_with (go_at_call 28; refine hN.mono ?_; rintro e w1 ⟨rfl, rfl⟩; clear hN)
  go_ret2
  exact ⟨rfl, rfl⟩
set_option maxRecDepth 10000 in
set_option maxHeartbeats 2000000 in
theorem dOpen (v : Value) (l : List Nat) (w : World) (hl : 1 ≤ l.length) (hl2 : l.length ≤ 65536) (hv : KL .u64 w v l) :
    Calls Try.prog 13 #[v] w (OpenedP l w) := by
  obtain ⟨n, hn⟩ : ∃ n, l.length = n := ⟨_, rfl⟩
  have hN := dNew n w (by omega) (by omega)
  have hvh := Lib.hid hv
  obtain ⟨A, cap, rfl, _⟩ := hv.form hn
  rw [hn] at hl hl2
  go_enter Try.func13, Try.ntmps13
  go_wp2_with (first
    | (go_at_call 28; refine hN.mono ?_; rintro e w1 ⟨B, F, rfl, hD, hF, hb⟩; clear hN
       obtain ⟨C, M, v0, hR⟩ := hD
       change DvR w1 B C M v0 F (newD n) at hR
       have hlR : (newD n).L.length = n := by simp [newD, dv0]
       obtain ⟨A1, cap1, rfl, hA1⟩ := hR.last.form
       obtain ⟨g, rfl, _, hgl⟩ := hA1 (by omega)
       obtain ⟨⟨c0, c1, c2, c3, c4, c5⟩, fz⟩ := hR.cells
       have hgR := hR.last
       simp only [hlR] at c0 hgR
       obtain ⟨w2, hcp, ho2, hg2⟩ := copyU hgR hlR hn (by omega) (hvh.out.keep hb) 3
       have hgF := hR.f0 g rfl
       have hc0 : Chg (fun k => k = g) w1 w2 := Chg.of_grown hg2 (fun k e => .inl (by cases e; rfl))
       have hR2 := Lib.hid (show DvR w2 B C M (.slice (some ⟨g, 0, none⟩) n cap1) F (dv0 l) from
         ⟨(hc0.block B (hR.lt _ hR.fB) (fun e => row_ne hR.last hR.blk (by decide) g rfl e.symm)).trans (by have q := hR.blk; rw [hlR] at q; exact q), ho2, hR.cach.chg hc0 (fun e => row_ne_mapU hR.last hR.cach g rfl e.symm), hR.flus.chg hc0 (fun e => row_ne_mapU hR.last hR.flus g rfl e.symm), hR.ne, hR.fB, hR.fC, hR.fM, fun k e => by cases e; exact hgF, fun k e => Nat.lt_of_lt_of_le (hR.lt k e) hg2.size⟩)
       have hB2 := Lib.hid (hb.grown hg2 hb.size (fun j e => by cases e; exact hF g hgF))
       replace hF := Lib.hid hF
       clear hR hgR fz c1 c2 c3 c4 c5 hA1 ho2 hg2 hc0 hb)
    | (at_builtin; refine wpList_copy_run rfl _ _ 22 rfl _ _ _ rfl rfl hcp ?_))

  go_ret2
  exact ⟨_, _, rfl, ⟨_, _, _, hR2.out⟩, hF.out, hB2.out⟩
end Go.Proofs.Ytcemiclbeocnjaa
