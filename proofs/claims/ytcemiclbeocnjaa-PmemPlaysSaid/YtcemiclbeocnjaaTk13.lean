/-
  Layer 20 (tx): the document's Made, Unmake, Make.
-/
import Derived.Test.YtcemiclbeocnjaaTk12
set_option linter.unusedVariables false
set_option linter.unusedSimpArgs false
namespace Go.Proofs.Ytcemiclbeocnjaa
open Go.RowKit Go.ChangeShapes Go.WideShapes Go.Deep Go.Maps

set_option maxHeartbeats 2000000 in
theorem refMade_any (B : Nat) (G : Nat → Prop) (r : Rf) (x : Int) (w : World) (h : RfAt w B G r) (hlen : r.fresh.length ≤ 1000000) :
    Calls Try.prog 73 #[.pointer (some ⟨B, 0, none⟩), .int .i64 x] w fun e w' => e = .returned (.tuple #[fV ((lookF r.fresh x).getD fx0), .bool (lookF r.fresh x).isSome]) ∧ Below w.heap.size w w' := by
  have hb0 : Below w.heap.size w (w.alloc (.cells #[.int .i64 0, .int .i64 0, .int .i64 0, .int .i64 0, .bool false, .int .i64 0, .int .i64 0, .int .i64 0, .int .u64 0] (69 : Nat))) := (Below.refl _ w).alloc (Nat.le_refl _) _
  have hF := refFind_any B G r x _ (h.keep hb0) hlen
  obtain ⟨v2, v3, v4, hR⟩ := h
  have hBl := hR.lt _ hR.gB
  have hRH := Lib.hid hR
  clear hR
  cases hl : lookF r.fresh x with
  | none =>
    replace hF := hF.mono (fun e w' (h : _) => show e = .returned (.int .i64 (-1)) ∧ Below (w.alloc (.cells #[.int .i64 0, .int .i64 0, .int .i64 0, .int .i64 0, .bool false, .int .i64 0, .int .i64 0, .int .i64 0, .int .u64 0] (69 : Nat))).heap.size (w.alloc (.cells #[.int .i64 0, .int .i64 0, .int .i64 0, .int .i64 0, .bool false, .int .i64 0, .int .i64 0, .int .i64 0, .int .u64 0] (69 : Nat))) w' from by
      refine ⟨?_, h.2⟩
      rcases h.1 with q | ⟨k, _, _, q⟩
      · exact q.1
      · rw [hl] at q; cases q)
    clear hl hRH
    simp only [Option.getD_none, Option.isSome_none, fV, fE, fx0]
    go_enter Try.func73, Try.ntmps73
    go_wp2_with (go_at_call 91; refine hF.mono ?_; rintro e w1 ⟨rfl, hb⟩
                 have hb1 := hb0.trans (hb.mono hb0.size)
                 have g1 : w1.heap[w.heap.size]? = some (.cells #[.int .i64 0, .int .i64 0, .int .i64 0, .int .i64 0, .bool false, .int .i64 0, .int .i64 0, .int .i64 0, .int .u64 0] (69 : Nat) (0, 0)) := (hb.block _ (by simp)).trans (World.alloc_heap_new w _)
                 obtain ⟨⟨p0, p1, p2, p3, p4, p5, p6, p7, p8⟩, q0, q1, q2, q3, q4, q5, q6, q7, q8⟩ := blk9 g1
                 clear hF hb)
    (try simp only [Exit.inBlock, Exit.then])
    obtain ⟨w9, hw9, hb9, hc9⟩ := st9 g1 0 0 0 0 false 0 0 0 0
    rw [← hw9]
    have hF2 := hb1.trans (hc9.below (N := w.heap.size) (fun k e => by omega) hb1.size)
    refine bodyPost_ret (v := .tuple #[.agg #[.int .i64 0, .int .i64 0, .int .i64 0, .int .i64 0, .bool false, .int .i64 0, .int .i64 0, .int .i64 0, .int .u64 0], .bool false]) ?_ rfl ⟨rfl, hF2⟩
    rw [results_cell_tmp rfl]
    obtain ⟨⟨e0, e1, e2, e3, e4, e5, e6, e7, e8⟩, _⟩ := blk9 hb9
    clear hF2 hb9 hc9 hw9 p0 p1 p2 p3 p4 p5 p6 p7 p8 q0 q1 q2 q3 q4 q5 q6 q7 q8 g1
    go_simp
  | some f =>
    replace hF := hF.mono (fun e w' (h : _) => show ∃ k : Nat, e = .returned (.int .i64 k) ∧ k < r.fresh.length ∧ r.fresh.getD k default = f ∧ Below (w.alloc (.cells #[.int .i64 0, .int .i64 0, .int .i64 0, .int .i64 0, .bool false, .int .i64 0, .int .i64 0, .int .i64 0, .int .u64 0] (69 : Nat))).heap.size (w.alloc (.cells #[.int .i64 0, .int .i64 0, .int .i64 0, .int .i64 0, .bool false, .int .i64 0, .int .i64 0, .int .i64 0, .int .u64 0] (69 : Nat))) w' from by
      rcases h.1 with q | ⟨k, q1, q2, q3⟩
      · have := q.2; rw [hl] at this; cases this
      · rw [hl] at q3; injection q3 with q3; exact ⟨k, q1, q2, q3.symm, h.2⟩)
    clear hl
    obtain ⟨⟨a1, a2, a3, a4, a5⟩, a6, a7, a8, a9⟩ := f
    simp only [Option.getD_some, Option.isSome_some, fV, fE]
    obtain ⟨m, hm⟩ : ∃ m, r.fresh.length = m := ⟨_, rfl⟩
    have hm9 : m ≤ 1000000 := by omega
    go_enter Try.func73, Try.ntmps73
    go_wp2_with (go_at_call 91; refine hF.mono ?_; rintro e w1 ⟨k, rfl, hk, hs, hb⟩
                 have hb1 := hb0.trans (hb.mono hb0.size)
                 have g1 : w1.heap[w.heap.size]? = some (.cells #[.int .i64 0, .int .i64 0, .int .i64 0, .int .i64 0, .bool false, .int .i64 0, .int .i64 0, .int .i64 0, .int .u64 0] (69 : Nat) (0, 0)) := (hb.block _ (by simp)).trans (World.alloc_heap_new w _)
                 obtain ⟨⟨p0, p1, p2, p3, p4, p5, p6, p7, p8⟩, q0, q1, q2, q3, q4, q5, q6, q7, q8⟩ := blk9 g1
                 have hR1 := hRH.out.keep hb1
                 have c3 := hR1.cells.1.2.2.2.1
                 obtain ⟨A3, cap, rfl, hC⟩ := (hR1.fresh.el fE_len).form hm
                 obtain ⟨g, off, rfl, hcap, _, hg2, hcl⟩ := hC w1 k (Below.refl _ _) (by omega)
                 rw [hs] at hcl
                 have d0 : w1.cell? ⟨g, off + k * 9, none⟩ = some (.int .i64 a1) := hcl 0 (by omega)
                 have d1 : w1.cell? ⟨g, off + k * 9 + 1, none⟩ = some (.int .i64 a2) := hcl 1 (by omega)
                 have d2 : w1.cell? ⟨g, off + k * 9 + 2, none⟩ = some (.int .i64 a3) := hcl 2 (by omega)
                 have d3 : w1.cell? ⟨g, off + k * 9 + 3, none⟩ = some (.int .i64 a4) := hcl 3 (by omega)
                 have d4 : w1.cell? ⟨g, off + k * 9 + 4, none⟩ = some (.bool a5) := hcl 4 (by omega)
                 have d5 : w1.cell? ⟨g, off + k * 9 + 5, none⟩ = some (.int .i64 a6) := hcl 5 (by omega)
                 have d6 : w1.cell? ⟨g, off + k * 9 + 6, none⟩ = some (.int .i64 a7) := hcl 6 (by omega)
                 have d7 : w1.cell? ⟨g, off + k * 9 + 7, none⟩ = some (.int .i64 a8) := hcl 7 (by omega)
                 have d8 : w1.cell? ⟨g, off + k * 9 + 8, none⟩ = some (.int .u64 a9) := hcl 8 (by omega)
                 have hlt' : (k : Int) < (m : Int) := by omega
                 clear hF hb hcl hC hR1 hRH hs hk hlen hm)
    (try simp only [Exit.inBlock, Exit.then])
    obtain ⟨w9, hw9, hb9, hc9⟩ := st9 g1 a1 a2 a3 a4 a5 a6 a7 a8 a9
    rw [← hw9]
    have hF2 := hb1.trans (hc9.below (N := w.heap.size) (fun k e => by omega) hb1.size)
    refine bodyPost_ret (v := .tuple #[.agg #[.int .i64 a1, .int .i64 a2, .int .i64 a3, .int .i64 a4, .bool a5, .int .i64 a6, .int .i64 a7, .int .i64 a8, .int .u64 a9], .bool true]) ?_ rfl ⟨rfl, hF2⟩
    rw [results_cell_tmp rfl]
    obtain ⟨⟨e0, e1, e2, e3, e4, e5, e6, e7, e8⟩, _⟩ := blk9 hb9
    clear hF2 hb9 hc9 hw9 p0 p1 p2 p3 p4 p5 p6 p7 p8 q0 q1 q2 q3 q4 q5 q6 q7 q8 g1 d0 d1 d2 d3 d4 d5 d6 d7 d8
    go_simp

def cutF (L : List Fx) (x : Int) : List Fx := L.filter (fun f => f.2.1 != x)
theorem cutF_take (L : List Fx) (k : Nat) (x : Int) (h : k < L.length) : cutF (L.take (k + 1)) x = cutF (L.take k) x ++ (if (L.getD k default).2.1 = x then [] else [L.getD k default]) := by
  unfold cutF
  rw [List.take_succ_eq_append_getElem h, List.filter_append, List.getD_eq_getElem?_getD, List.getElem?_eq_getElem h]
  simp only [Option.getD_some, List.filter_cons, List.filter_nil]
  by_cases q : L[k].2.1 = x
  · rw [if_pos q, if_neg (by simp [q])]
  · rw [if_neg q, if_pos (by simp [q])]
theorem cutF_len (L : List Fx) (x : Int) : (cutF L x).length ≤ L.length := List.length_filter_le _ _

set_option maxRecDepth 10000 in
set_option maxHeartbeats 4000000 in
theorem refUnmake_any (B : Nat) (G : Nat → Prop) (r : Rf) (x : Int) (w : World) (h : RfAt w B G r) (hlen : r.fresh.length ≤ 1000000) :
    Calls Try.prog 69 #[.pointer (some ⟨B, 0, none⟩), .int .i64 x] w fun e w' => e = .returned (.tuple #[fV ((lookF r.fresh x).getD fx0), .bool (lookF r.fresh x).isSome]) ∧ (∃ G', RfAt w' B G' { r with fresh := cutF r.fresh x } ∧ Step G w G' w') := by
  have hb0 : Below w.heap.size w (w.alloc (.cells #[.int .i64 0, .int .i64 0, .int .i64 0, .int .i64 0, .bool false, .int .i64 0, .int .i64 0, .int .i64 0, .int .u64 0] (69 : Nat))) := (Below.refl _ w).alloc (Nat.le_refl _) _
  have hM := refMade_any B G r x _ (h.keep hb0) hlen
  obtain ⟨v2, v3, v4, hR⟩ := h
  have hBl := hR.lt _ hR.gB
  have hG0 := Lib.hid hR.lt
  obtain ⟨m, hm⟩ : ∃ m, r.fresh.length = m := ⟨_, rfl⟩
  obtain ⟨A3, cap, rfl, _⟩ := (hR.fresh.el fE_len).form hm
  have hRH := Lib.hid hR
  clear hR
  generalize (lookF r.fresh x).isSome = ok at *
  generalize (lookF r.fresh x).getD fx0 = f at *
  have hT := Lib.hid (fun k (hk : k < m) => cutF_take r.fresh k x (by omega))
  have hE := Lib.hid (show cutF (r.fresh.take m) x = cutF r.fresh x from by rw [List.take_of_length_le (by omega)])
  have hLn := Lib.hid (fun k => show (cutF (r.fresh.take k) x).length ≤ m from Nat.le_trans (cutF_len _ _) (by simp; omega))
  have hm9 : m ≤ 1000000 := by omega
  replace hm := Lib.hid hm
  obtain ⟨⟨a1, a2, a3, a4, a5⟩, a6, a7, a8, a9⟩ := f
  simp only [fV, fE] at *
  go_enter Try.func69, Try.ntmps69
  go_wp2_with (go_at_call 73; refine hM.mono ?_; rintro e w1 ⟨rfl, hb⟩)
  have hb1 := hb0.trans (hb.mono hb0.size)
  obtain ⟨w2, hw2⟩ : ∃ w2, w1.alloc (.cells #[.int .i64 a1, .int .i64 a2, .int .i64 a3, .int .i64 a4, .bool a5, .int .i64 a6, .int .i64 a7, .int .i64 a8, .int .u64 a9] (69 : Nat)) = w2 := ⟨_, rfl⟩
  have hs1 : w.heap.size + 1 ≤ w1.heap.size := by have := hb.size; simpa using this
  have hs2 : w2.heap.size = w1.heap.size + 1 := by rw [← hw2]; simp
  have hb2 : Below w.heap.size w w2 := by rw [← hw2]; exact hb1.alloc hb1.size _
  have g1 : w2.heap[w.heap.size]? = some (.cells #[.int .i64 0, .int .i64 0, .int .i64 0, .int .i64 0, .bool false, .int .i64 0, .int .i64 0, .int .i64 0, .int .u64 0] (69 : Nat) (0, 0)) := by rw [← hw2]; exact (Below.heap_alloc _ _ _ (by omega)).trans ((hb.block _ (by simp)).trans (World.alloc_heap_new w _))
  have g2 : w2.heap[w1.heap.size]? = some (.cells #[.int .i64 a1, .int .i64 a2, .int .i64 a3, .int .i64 a4, .bool a5, .int .i64 a6, .int .i64 a7, .int .i64 a8, .int .u64 a9] (69 : Nat) (0, 0)) := by rw [← hw2]; exact World.alloc_heap_new w1 _
  have hR2 := hRH.out.keep hb2
  replace hb2 := Lib.hid hb2
  clear hM hb hb1 hb0 hRH
  go_loopw [8, 9] (fun v i wr => ∃ k : Nat, k ≤ m ∧ i = .int .i64 k ∧ OwnE 69 9 fE wr w2.heap.size v (cutF (r.fresh.take k) x) ∧ Below w2.heap.size w2 wr) (fun _ i _ => m + 1 - (intOf i).toNat)
  case atStart =>
    rw [hw2]
    exact ⟨0, Nat.zero_le _, rfl, OwnE.nil _ _ _ _ _, Below.refl _ _⟩
  case round =>
    obtain ⟨k, hk, rfl, hv, hB⟩ := hrel
    have hRr := hR2.keep hB
    have c3 := hRr.cells.1.2.2.2.1
    have hsz := hB.size
    by_cases hlt : k < m
    · obtain ⟨A4, cap4, he, hC⟩ := (hRr.fresh.el fE_len).form hm.out
      obtain ⟨g, off, hA, hcap, _, hg2, hcl⟩ := hC wr k (Below.refl _ _) hlt
      cases he
      subst hA
      have d0 := hcl 0 (by omega)
      have d1 := hcl 1 (by omega)
      have d2 := hcl 2 (by omega)
      have d3 := hcl 3 (by omega)
      have d4 := hcl 4 (by omega)
      have d5 := hcl 5 (by omega)
      have d6 := hcl 6 (by omega)
      have d7 := hcl 7 (by omega)
      have d8 := hcl 8 (by omega)
      rw [Nat.add_zero] at d0
      have hlt' : (k : Int) < (m : Int) := by omega
      have hTk := Lib.hid (hT.out k hlt)
      have hLk := hLn.out k
      clear hcl hC hRr g1 g2 hR2
      generalize r.fresh.getD k default = f at *
      obtain ⟨⟨b1, b2, b3, b4, b5⟩, b6, b7, b8, b9⟩ := f
      replace d0 : wr.cell? ⟨g, off + k * 9, none⟩ = some (.int .i64 b1) := d0
      replace d1 : wr.cell? ⟨g, off + k * 9 + 1, none⟩ = some (.int .i64 b2) := d1
      replace d2 : wr.cell? ⟨g, off + k * 9 + 2, none⟩ = some (.int .i64 b3) := d2
      replace d3 : wr.cell? ⟨g, off + k * 9 + 3, none⟩ = some (.int .i64 b4) := d3
      replace d4 : wr.cell? ⟨g, off + k * 9 + 4, none⟩ = some (.bool b5) := d4
      replace d5 : wr.cell? ⟨g, off + k * 9 + 5, none⟩ = some (.int .i64 b6) := d5
      replace d6 : wr.cell? ⟨g, off + k * 9 + 6, none⟩ = some (.int .i64 b7) := d6
      replace d7 : wr.cell? ⟨g, off + k * 9 + 7, none⟩ = some (.int .i64 b8) := d7
      replace d8 : wr.cell? ⟨g, off + k * 9 + 8, none⟩ = some (.int .u64 b9) := d8
      by_cases q : b6 = x
      · subst q
        have t1 : (b6 != b6) = false := by simp
        have hT2 := Lib.hid (show cutF (r.fresh.take (k + 1)) b6 = cutF (r.fresh.take k) b6 from by rw [hTk.out]; simp)
        rw [← hT2.out] at hv
        replace hv := Lib.hid hv
        clear hTk hT2 hLk hw2
        go_wp2_with fail
        go_roundw
        case rel => exact ⟨k + 1, by omega, by go_num, hv.out, hB⟩
        case measure => simp [intOf]; omega
      · have t1 : (b6 != x) = true := by rw [bne_iff_ne]; exact q
        have hT2 := Lib.hid (show cutF (r.fresh.take (k + 1)) x = cutF (r.fresh.take k) x ++ [((b1, b2, b3, b4, b5), b6, b7, b8, b9)] from by rw [hTk.out, if_neg q])
        obtain ⟨v', w3, hrun, ho2, hgg, hn2, _⟩ := appE fT (hv.alloc (.cells (fE ((b1, b2, b3, b4, b5), b6, b7, b8, b9)).toArray (69 : Nat))) (one_fresh wr ((b1, b2, b3, b4, b5), b6, b7, b8, b9)) (by simp; omega) (by omega) (by simp)
        have hB2 := Lib.hid ((hB.alloc hB.size (.cells (fE ((b1, b2, b3, b4, b5), b6, b7, b8, b9)).toArray (69 : Nat))).grown hgg (by simp; omega) (fun j hj => (hv.lt j hj).1))
        rw [← hT2.out] at ho2
        replace ho2 := Lib.hid ho2
        simp only [fE] at hrun
        clear hv hgg hn2 hTk hT2 hLk hw2
        go_wp2_with (at_builtin; refine wpList_append_run rfl _ _ 58 rfl _ _ _ rfl rfl hrun ?_)
        go_roundw
        case rel => exact ⟨k + 1, by omega, by go_num, ho2.out, hB2.out⟩
        case measure => simp [intOf]; omega
    · obtain rfl : k = m := by omega
      rw [hE.out] at hv
      have f3 := hRr.cells.2 3
      have hBlr : B < wr.heap.size := by omega
      obtain ⟨n2, hn2⟩ : ∃ n2, (cutF r.fresh x).length = n2 := ⟨_, rfl⟩
      obtain ⟨A5, cap5, rfl, _⟩ := (hv.el fE_len).form hn2
      have hRt := Lib.hid (hRr.freshTo hv)
      have hvl := Lib.hid hv.lt
      have gr1 := (hB.block _ (by omega)).trans g1
      have gr2 := (hB.block _ (by omega)).trans g2
      obtain ⟨⟨p0, p1, p2, p3, p4, p5, p6, p7, p8⟩, q0, q1, q2, q3, q4, q5, q6, q7, q8⟩ := blk9 gr1
      obtain ⟨⟨r0, r1, r2, r3, r4, r5, r6, r7, r8⟩, _⟩ := blk9 gr2
      have hgB := Lib.hid hRr.gB
      have hbw := Lib.hid (hb2.out.trans (hB.mono (by omega)))
      have hgl := hG0
      have hchg := Lib.hid ((Chg.of_below G hbw.out).trans (Chg.setCell (S := G) wr B 3 (.slice A5 n2 cap5) hgB.out) (fun j q => .inl q))
      have gr3 : (wr.setCell ⟨B, 3, none⟩ (.slice A5 n2 cap5)).heap[w.heap.size]? = some (.cells #[.int .i64 0, .int .i64 0, .int .i64 0, .int .i64 0, .bool false, .int .i64 0, .int .i64 0, .int .i64 0, .int .u64 0] (69 : Nat) (0, 0)) := (Below.heap_setCell _ _ _ _ (by simp only []; omega)).trans gr1
      clear hRr hR2 hv hn2 gr1 gr2 g1 g2 hw2
      go_wp2_with fail
      (try simp only [Exit.inBlock, Exit.then])
      obtain ⟨w9, hw9, hb9, hc9⟩ := st9 gr3 a1 a2 a3 a4 a5 a6 a7 a8 a9
      rw [← hw9]
      have hF1 := hRt.out.chg hc9 (fun j e q => by
        rcases e with e | e
        · have := hgl.out j e; omega
        · have := (hvl.out j e).1; omega)
      have hF2 := hchg.out.trans hc9 (fun j q => .inr (by omega))
      refine bodyPost_ret (v := .tuple #[.agg #[.int .i64 a1, .int .i64 a2, .int .i64 a3, .int .i64 a4, .bool a5, .int .i64 a6, .int .i64 a7, .int .i64 a8, .int .u64 a9], .bool ok]) ?_ rfl ⟨rfl, _, ⟨_, _, _, hF1⟩, ⟨fun j e => ?_, hF2⟩⟩
      · rw [results_cell_tmp rfl]
        obtain ⟨⟨e0, e1, e2, e3, e4, e5, e6, e7, e8⟩, _⟩ := blk9 hb9
        clear hF1 hF2 hb9 hc9 hw9 p0 p1 p2 p3 p4 p5 p6 p7 p8 q0 q1 q2 q3 q4 q5 q6 q7 q8 r0 r1 r2 r3 r4 r5 r6 r7 r8 gr3
        go_simp
      · rcases e with e | e
        · exact .inl e
        · exact .inr (by have := (hvl.out j e).1; omega)
end Go.Proofs.Ytcemiclbeocnjaa
