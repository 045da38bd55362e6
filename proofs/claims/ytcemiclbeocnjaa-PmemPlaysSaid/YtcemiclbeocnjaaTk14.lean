/-
  Layer 20 (tx): the document's Make.
-/
import Derived.Test.YtcemiclbeocnjaaTk13
set_option linter.unusedVariables false
set_option linter.unusedSimpArgs false
namespace Go.Proofs.Ytcemiclbeocnjaa
open Go.RowKit Go.ChangeShapes Go.WideShapes Go.Deep Go.Maps

def insStep (f : Fx) (t : List Fx × Bool) (g : Fx) : List Fx × Bool := if t.2 = false ∧ f.2.1 < g.2.1 then ((t.1 ++ [f]) ++ [g], true) else (t.1 ++ [g], t.2)
def insAll (f : Fx) (L : List Fx) : List Fx × Bool := L.foldl (insStep f) ([], false)
def insF (L : List Fx) (f : Fx) : List Fx := if (insAll f L).2 then (insAll f L).1 else (insAll f L).1 ++ [f]
theorem insAll_take (f : Fx) (L : List Fx) (k : Nat) (h : k < L.length) : insAll f (L.take (k + 1)) = insStep f (insAll f (L.take k)) (L.getD k default) := by
  unfold insAll
  rw [List.take_succ_eq_append_getElem h, List.foldl_append, List.getD_eq_getElem?_getD, List.getElem?_eq_getElem h]
  rfl
theorem insFold_len (f : Fx) : ∀ (L : List Fx) (t : List Fx × Bool), (L.foldl (insStep f) t).1.length + (if t.2 then 1 else 0) = t.1.length + L.length + (if (L.foldl (insStep f) t).2 then 1 else 0)
  | [], t => by rw [List.foldl_nil, List.length_nil, Nat.add_zero]
  | g :: L, t => by
    rw [List.foldl_cons]
    have := insFold_len f L (insStep f t g)
    unfold insStep at this ⊢
    split at this
    · rename_i q
      rw [if_pos q] 
      simp only [q.1, List.length_append, List.length_cons, List.length_nil, if_true] at this ⊢
      simp at this ⊢
      omega
    · rename_i q
      rw [if_neg q]
      simp only [List.length_append, List.length_cons, List.length_nil] at this ⊢
      omega
theorem insAll_len (f : Fx) (L : List Fx) : (insAll f L).1.length ≤ L.length + 1 := by
  have := insFold_len f L ([], false)
  unfold insAll
  simp at this
  split at this <;> omega
theorem refMake_close {w w2 w5 : World} {B : Nat} {v2 v3 v4 u : Value} {G G1 : Nat → Prop} {r : Rf} {l : List Fx} (hS : Step G w G1 w2) (hB : Below w2.heap.size w2 w5) (hR : RfR w5 B v2 v3 v4 G1 r) (hu : OwnE 69 9 fE w5 w2.heap.size u l) :
    ∃ G', RfAt (w5.setCell ⟨B, 3, none⟩ u) B G' { r with fresh := l } ∧ Step G w G' (w5.setCell ⟨B, 3, none⟩ u) := by
  refine ⟨_, ⟨_, _, _, hR.freshTo hu⟩, fun j e => ?_, hS.chg.trans ((Chg.of_below G1 hB).trans (Chg.setCell (S := G1) _ _ _ _ hR.gB) (fun j q => .inl q)) hS.sub⟩
  rcases e with e | e
  · exact hS.sub j e
  · exact .inr (Nat.le_trans hS.chg.size (hu.lt j e).1)

set_option maxRecDepth 10000 in
set_option maxHeartbeats 4000000 in
theorem refMake_any (B : Nat) (G : Nat → Prop) (r : Rf) (f : Fx) (w : World) (h : RfAt w B G r) (hlen : r.fresh.length ≤ 100000) :
    Calls Try.prog 68 #[.pointer (some ⟨B, 0, none⟩), fV f] w fun e w' => e = .returned (.tuple #[]) ∧ (∃ G', RfAt w' B G' { r with fresh := insF (cutF r.fresh f.2.1) f } ∧ Step G w G' w') := by
  obtain ⟨⟨a1, a2, a3, a4, a5⟩, a6, a7, a8, a9⟩ := f
  have hb0 : Below w.heap.size w (w.alloc (.cells #[.int .i64 a1, .int .i64 a2, .int .i64 a3, .int .i64 a4, .bool a5, .int .i64 a6, .int .i64 a7, .int .i64 a8, .int .u64 a9] (69 : Nat))) := (Below.refl _ w).alloc (Nat.le_refl _) _
  have hU := refUnmake_any B G r a6 _ (h.keep hb0) (by omega)
  have hBl := h.lt _ h.gB
  have hG0 := Lib.hid h.lt
  have k0 : (w.alloc (.cells #[.int .i64 a1, .int .i64 a2, .int .i64 a3, .int .i64 a4, .bool a5, .int .i64 a6, .int .i64 a7, .int .i64 a8, .int .u64 a9] (69 : Nat))).heap[w.heap.size]? = some (.cells #[.int .i64 a1, .int .i64 a2, .int .i64 a3, .int .i64 a4, .bool a5, .int .i64 a6, .int .i64 a7, .int .i64 a8, .int .u64 a9] (69 : Nat) (0, 0)) := World.alloc_heap_new w _
  clear h
  obtain ⟨⟨e0, e1, e2, e3, e4, e5, e6, e7, e8⟩, _⟩ := blk9 k0
  have hcl := Nat.le_trans (cutF_len r.fresh a6) hlen
  simp only [] at *
  obtain ⟨L, hL⟩ : ∃ L, cutF r.fresh a6 = L := ⟨_, rfl⟩
  rw [hL] at hU hcl ⊢
  obtain ⟨m, hm⟩ : ∃ m, L.length = m := ⟨_, rfl⟩
  have hm9 : m ≤ 100000 := by omega
  generalize (lookF r.fresh a6).isSome = okx at *
  generalize (lookF r.fresh a6).getD fx0 = fx at *
  obtain ⟨⟨y1, y2, y3, y4, y5⟩, y6, y7, y8, y9⟩ := fx
  have hT := Lib.hid (fun k (hk : k < m) => insAll_take ((a1, a2, a3, a4, a5), a6, a7, a8, a9) L k (by omega))
  have hE := Lib.hid (show insAll ((a1, a2, a3, a4, a5), a6, a7, a8, a9) (L.take m) = insAll ((a1, a2, a3, a4, a5), a6, a7, a8, a9) L from by rw [List.take_of_length_le (by omega)])
  have hLn := Lib.hid (fun k (hk : k ≤ m) => show (insAll ((a1, a2, a3, a4, a5), a6, a7, a8, a9) (L.take k)).1.length ≤ 100001 from Nat.le_trans (insAll_len _ _) (by simp; omega))
  have hI := Lib.hid (show insF L ((a1, a2, a3, a4, a5), a6, a7, a8, a9) = if (insAll ((a1, a2, a3, a4, a5), a6, a7, a8, a9) L).2 then (insAll ((a1, a2, a3, a4, a5), a6, a7, a8, a9) L).1 else (insAll ((a1, a2, a3, a4, a5), a6, a7, a8, a9) L).1 ++ [((a1, a2, a3, a4, a5), a6, a7, a8, a9)] from rfl)
  clear hL hcl hlen
  replace hm := Lib.hid hm
  simp only [fV, fE] at *
  go_enter Try.func68, Try.ntmps68
  go_wp2_with (go_at_call 69; refine hU.mono ?_; rintro e w2 ⟨rfl, G1, hR1, hS1⟩)
  have hs2 : w.heap.size + 1 ≤ w2.heap.size := by have := hS1.chg.size; simpa using this
  have g1 : w2.heap[w.heap.size]? = some (.cells #[.int .i64 a1, .int .i64 a2, .int .i64 a3, .int .i64 a4, .bool a5, .int .i64 a6, .int .i64 a7, .int .i64 a8, .int .u64 a9] (69 : Nat) (0, 0)) := (hS1.chg.block _ (by simp) (fun q => by have := hG0.out _ q; omega)).trans k0
  have hS2 := Lib.hid ((Step.of_below G hb0).trans hS1)
  clear hU e0 e1 e2 e3 e4 e5 e6 e7 e8 k0 hS1 hb0
  obtain ⟨v2, v3, v4, hRR⟩ := hR1
  obtain ⟨A3, cap, rfl, _⟩ := (hRR.fresh.el fE_len).form hm.out
  have hG1 := Lib.hid hRR.lt
  have hBl2 := hRR.lt _ hRR.gB
  go_loopw [4, 5, 6] (fun v d i wr => ∃ (k : Nat) (t : List Fx × Bool), k ≤ m ∧ i = .int .i64 k ∧ d = .bool t.2 ∧ Hid (t = insAll ((a1, a2, a3, a4, a5), a6, a7, a8, a9) (L.take k)) ∧ OwnE 69 9 fE wr w2.heap.size v t.1 ∧ Below w2.heap.size w2 wr) (fun _ _ i _ => m + 1 - (intOf i).toNat)
  case atStart => exact ⟨0, ([], false), Nat.zero_le _, rfl, rfl, rfl, OwnE.nil _ _ _ _ _, Below.refl _ _⟩
  case round =>
    obtain ⟨k, t, hk, rfl, rfl, ht, hv, hB⟩ := hrel
    have hRr := hRR.keep hB
    have c3 := hRr.cells.1.2.2.2.1
    have hsz := hB.size
    have gr1 := (hB.block _ (by omega)).trans g1
    obtain ⟨⟨p0, p1, p2, p3, p4, p5, p6, p7, p8⟩, _⟩ := blk9 gr1
    by_cases hlt : k < m
    · obtain ⟨A4, cap4, he, hC⟩ := (hRr.fresh.el fE_len).form hm.out
      obtain ⟨g, off, hA, hcap, _, hg2, hcl⟩ := hC wr k (Below.refl _ _) hlt
      cases he
      subst hA
      have hlt' : (k : Int) < (m : Int) := by omega
      have hTk := Lib.hid (show insStep ((a1, a2, a3, a4, a5), a6, a7, a8, a9) t (L.getD k default) = insAll ((a1, a2, a3, a4, a5), a6, a7, a8, a9) (L.take (k + 1)) from by rw [hT.out k hlt, ← ht.out])
      have hLk := hLn.out k hk
      rw [← ht.out] at hLk
      clear hRr gr1 g1 ht
      obtain ⟨f, hfq⟩ : ∃ f, L.getD k default = f := ⟨_, rfl⟩
      rw [hfq] at hcl hTk
      replace hfq := Lib.hid hfq
      obtain ⟨⟨b1, b2, b3, b4, b5⟩, b6, b7, b8, b9⟩ := f
      have d0 : wr.cell? ⟨g, off + k * 9, none⟩ = some (.int .i64 b1) := hcl 0 (by omega)
      have d1 : wr.cell? ⟨g, off + k * 9 + 1, none⟩ = some (.int .i64 b2) := hcl 1 (by omega)
      have d2 : wr.cell? ⟨g, off + k * 9 + 2, none⟩ = some (.int .i64 b3) := hcl 2 (by omega)
      have d3 : wr.cell? ⟨g, off + k * 9 + 3, none⟩ = some (.int .i64 b4) := hcl 3 (by omega)
      have d4 : wr.cell? ⟨g, off + k * 9 + 4, none⟩ = some (.bool b5) := hcl 4 (by omega)
      have d5 : wr.cell? ⟨g, off + k * 9 + 5, none⟩ = some (.int .i64 b6) := hcl 5 (by omega)
      have d6 : wr.cell? ⟨g, off + k * 9 + 6, none⟩ = some (.int .i64 b7) := hcl 6 (by omega)
      have d7 : wr.cell? ⟨g, off + k * 9 + 7, none⟩ = some (.int .i64 b8) := hcl 7 (by omega)
      have d8 : wr.cell? ⟨g, off + k * 9 + 8, none⟩ = some (.int .u64 b9) := hcl 8 (by omega)
      clear hcl
      have hsd : wr.drew.heap.size = wr.heap.size := rfl
      have cd3 : wr.drew.cell? ⟨B, 3, none⟩ = some (.slice (some ⟨g, off, none⟩) m cap) := c3
      have dd5 : wr.drew.cell? ⟨g, off + k * 9 + 5, none⟩ = some (.int .i64 b6) := d5
      have pd5 : wr.drew.cell? ⟨w.heap.size, 5, none⟩ = some (.int .i64 a6) := p5
      obtain ⟨l, d⟩ := t
      simp only [] at *
      cases d with
      | true =>
        obtain ⟨v', w3, hrun, ho2, hgg, hn2, _⟩ := appE fT (hv.drew.alloc (.cells (fE ((b1, b2, b3, b4, b5), b6, b7, b8, b9)).toArray (69 : Nat))) (one_fresh wr.drew ((b1, b2, b3, b4, b5), b6, b7, b8, b9)) (by simp; omega) (by omega) (by simp)
        have hB2 := Lib.hid ((hB.drew.alloc hB.drew.size (.cells (fE ((b1, b2, b3, b4, b5), b6, b7, b8, b9)).toArray (69 : Nat))).grown hgg (by simp; omega) (fun j hj => (hv.lt j hj).1))
        have hT2 := Lib.hid (show (l ++ [((b1, b2, b3, b4, b5), b6, b7, b8, b9)], true) = insAll ((a1, a2, a3, a4, a5), a6, a7, a8, a9) (L.take (k + 1)) from by rw [← hTk.out]; simp [insStep])
        replace ho2 := Lib.hid ho2
        simp only [fE] at hrun
        clear hv hgg hn2 hTk
        go_wp2_with fail
        refine wp_region_held_drew (S := (fun w' => w' = wr.drew)) (by kernel_rfl) ?_ (fun hHeld => ?_)
        · (try dsimp only)
          all_goals rfl
        refine takeL 0 (v := ?_) rfl (by kernel_rfl) (by kernel_rfl) (by kernel_rfl) (fun _ _ _ h => h) (by rfl) (by assumption) ?_ ?_
        rotate_left
        · (intro w hSw; (try dsimp only at hSw); (subst hSw); go_simp <;> with_reducible rfl)
        try simp only [Act.put, List.setIfInBounds_toArray, List.set_cons_zero, List.set_cons_succ]
        refine takeL 1 (v := ?_) rfl (by kernel_rfl) (by kernel_rfl) (by kernel_rfl) (fun _ _ _ h => h) (by rfl) (by assumption) ?_ ?_
        rotate_left
        · (intro w hSw; (try dsimp only at hSw); (subst hSw); go_simp <;> with_reducible rfl)
        try simp only [Act.put, List.setIfInBounds_toArray, List.set_cons_zero, List.set_cons_succ]
        refine takeL 2 (v := ?_) rfl (by kernel_rfl) (by kernel_rfl) (by kernel_rfl) (fun _ _ _ h => h) (by rfl) (by assumption) ?_ ?_
        rotate_left
        · (intro w hSw; (try dsimp only at hSw); (subst hSw); go_simp <;> with_reducible rfl)
        try simp only [Act.put, List.setIfInBounds_toArray, List.set_cons_zero, List.set_cons_succ]
        refine idleL 3 rfl (by kernel_rfl) (by kernel_rfl) (by kernel_rfl) (fun _ _ _ h => h) (by rfl) (by assumption) ?_
        try simp only [Act.put, List.setIfInBounds_toArray, List.set_cons_zero, List.set_cons_succ]
        refine idleL 4 rfl (by kernel_rfl) (by kernel_rfl) (by kernel_rfl) (fun _ _ _ h => h) (by rfl) (by assumption) ?_
        try simp only [Act.put, List.setIfInBounds_toArray, List.set_cons_zero, List.set_cons_succ]
        refine idleL 5 rfl (by kernel_rfl) (by kernel_rfl) (by kernel_rfl) (fun _ _ _ h => h) (by rfl) (by assumption) ?_
        try simp only [Act.put, List.setIfInBounds_toArray, List.set_cons_zero, List.set_cons_succ]
        refine idleL 6 rfl (by kernel_rfl) (by kernel_rfl) (by kernel_rfl) (fun _ _ _ h => h) (by rfl) (by assumption) ?_
        try simp only [Act.put, List.setIfInBounds_toArray, List.set_cons_zero, List.set_cons_succ]
        refine idleL 7 rfl (by kernel_rfl) (by kernel_rfl) (by kernel_rfl) (fun _ _ _ h => h) (by rfl) (by assumption) ?_
        try simp only [Act.put, List.setIfInBounds_toArray, List.set_cons_zero, List.set_cons_succ]
        refine idleL 8 rfl (by kernel_rfl) (by kernel_rfl) (by kernel_rfl) (fun _ _ _ h => h) (by rfl) (by assumption) ?_
        try simp only [Act.put, List.setIfInBounds_toArray, List.set_cons_zero, List.set_cons_succ]
        refine idleL 9 rfl (by kernel_rfl) (by kernel_rfl) (by kernel_rfl) (fun _ _ _ h => h) (by rfl) (by assumption) ?_
        try simp only [Act.put, List.setIfInBounds_toArray, List.set_cons_zero, List.set_cons_succ]
        refine idleL 10 rfl (by kernel_rfl) (by kernel_rfl) (by kernel_rfl) (fun _ _ _ h => h) (by rfl) (by assumption) ?_
        try simp only [Act.put, List.setIfInBounds_toArray, List.set_cons_zero, List.set_cons_succ]
        refine idleL 11 rfl (by kernel_rfl) (by kernel_rfl) (by kernel_rfl) (fun _ _ _ h => h) (by rfl) (by assumption) ?_
        try simp only [Act.put, List.setIfInBounds_toArray, List.set_cons_zero, List.set_cons_succ]
        refine idleL 12 rfl (by kernel_rfl) (by kernel_rfl) (by kernel_rfl) (fun _ _ _ h => h) (by rfl) (by assumption) ?_
        try simp only [Act.put, List.setIfInBounds_toArray, List.set_cons_zero, List.set_cons_succ]
        refine idleL 13 rfl (by kernel_rfl) (by kernel_rfl) (by kernel_rfl) (fun _ _ _ h => h) (by rfl) (by assumption) ?_
        try simp only [Act.put, List.setIfInBounds_toArray, List.set_cons_zero, List.set_cons_succ]
        refine takeL 14 (v := ?_) rfl (by kernel_rfl) (by kernel_rfl) (by kernel_rfl) (fun _ _ _ h => h) (by rfl) (by assumption) ?_ ?_
        rotate_left
        · (intro w hSw; (try dsimp only at hSw); (subst hSw); go_simp <;> with_reducible rfl)
        try simp only [Act.put, List.setIfInBounds_toArray, List.set_cons_zero, List.set_cons_succ]
        refine wpAnyH_done (by kernel_rfl) ?_ _
        go_wp2_with (at_builtin; refine wpList_append_run rfl _ _ 58 rfl _ _ _ rfl rfl hrun ?_)
        go_roundw
        case rel => exact ⟨k + 1, _, by omega, by go_num, rfl, hT2.out, ho2.out, hB2.out⟩
        case measure => simp [intOf]; omega
      | false =>
        by_cases q : a6 < b6
        · have q1 : decide (a6 < b6) = true := decide_eq_true q
          obtain ⟨v', w3, hrun, ho2, hgg, hn2, _⟩ := appE fT (hv.drew.alloc (.cells (fE ((a1, a2, a3, a4, a5), a6, a7, a8, a9)).toArray (69 : Nat))) (one_fresh wr.drew ((a1, a2, a3, a4, a5), a6, a7, a8, a9)) (by simp; omega) (by omega) (by simp)
          have hB2 := (hB.drew.alloc hB.drew.size (.cells (fE ((a1, a2, a3, a4, a5), a6, a7, a8, a9)).toArray (69 : Nat))).grown hgg (by simp; omega) (fun j hj => (hv.lt j hj).1)
          obtain ⟨A5, cap5, he5, hC5⟩ := ((hRR.keep hB2).fresh.el fE_len).form hm.out
          have cw3 := (hRR.keep hB2).cells.1.2.2.2.1
          obtain ⟨g5, off5, hA5, _, _, _, hcl5⟩ := hC5 w3 k (Below.refl _ _) hlt
          cases he5
          cases hA5
          rw [hfq.out] at hcl5
          have z0 : w3.cell? ⟨g, off + k * 9, none⟩ = some (.int .i64 b1) := hcl5 0 (by omega)
          have z1 : w3.cell? ⟨g, off + k * 9 + 1, none⟩ = some (.int .i64 b2) := hcl5 1 (by omega)
          have z2 : w3.cell? ⟨g, off + k * 9 + 2, none⟩ = some (.int .i64 b3) := hcl5 2 (by omega)
          have z3 : w3.cell? ⟨g, off + k * 9 + 3, none⟩ = some (.int .i64 b4) := hcl5 3 (by omega)
          have z4 : w3.cell? ⟨g, off + k * 9 + 4, none⟩ = some (.bool b5) := hcl5 4 (by omega)
          have z5 : w3.cell? ⟨g, off + k * 9 + 5, none⟩ = some (.int .i64 b6) := hcl5 5 (by omega)
          have z6 : w3.cell? ⟨g, off + k * 9 + 6, none⟩ = some (.int .i64 b7) := hcl5 6 (by omega)
          have z7 : w3.cell? ⟨g, off + k * 9 + 7, none⟩ = some (.int .i64 b8) := hcl5 7 (by omega)
          have z8 : w3.cell? ⟨g, off + k * 9 + 8, none⟩ = some (.int .u64 b9) := hcl5 8 (by omega)
          have hg3 : g < w3.heap.size := World.block_lt_of_cell? _ _ z0
          have hsz3 := hB2.size
          have hlen2 : (l ++ [((a1, a2, a3, a4, a5), a6, a7, a8, a9)]).length ≤ 1000001 := by simp; omega
          obtain ⟨v5, w5, hrun5, ho5, hgg5, hn5, _⟩ := appE fT (ho2.alloc (.cells (fE ((b1, b2, b3, b4, b5), b6, b7, b8, b9)).toArray (69 : Nat))) (one_fresh w3 ((b1, b2, b3, b4, b5), b6, b7, b8, b9)) (by simp; omega) (by simp; omega) (by simp)
          have hB5 := Lib.hid ((hB2.alloc hB2.size (.cells (fE ((b1, b2, b3, b4, b5), b6, b7, b8, b9)).toArray (69 : Nat))).grown hgg5 (by simp; omega) (fun j hj => (ho2.lt j hj).1))
          have hT2 := Lib.hid (show ((l ++ [((a1, a2, a3, a4, a5), a6, a7, a8, a9)]) ++ [((b1, b2, b3, b4, b5), b6, b7, b8, b9)], true) = insAll ((a1, a2, a3, a4, a5), a6, a7, a8, a9) (L.take (k + 1)) from by rw [← hTk.out]; simp [insStep, q])
          replace ho5 := Lib.hid ho5
          simp only [fE] at hrun hrun5
          clear hv hgg hn2 hTk ho2 hB2 hC5 hcl5 hn5 hgg5
          go_wp2_with fail
          refine wp_region_held_drew (S := (fun w' => w' = wr.drew)) (by kernel_rfl) ?_ (fun hHeld => ?_)
          · (try dsimp only)
            all_goals rfl
          refine takeL 0 (v := ?_) rfl (by kernel_rfl) (by kernel_rfl) (by kernel_rfl) (fun _ _ _ h => h) (by rfl) (by assumption) ?_ ?_
          rotate_left
          · (intro w hSw; (try dsimp only at hSw); (subst hSw); go_simp <;> with_reducible rfl)
          try simp only [Act.put, List.setIfInBounds_toArray, List.set_cons_zero, List.set_cons_succ]
          refine takeL 1 (v := ?_) rfl (by kernel_rfl) (by kernel_rfl) (by kernel_rfl) (fun _ _ _ h => h) (by rfl) (by assumption) ?_ ?_
          rotate_left
          · (intro w hSw; (try dsimp only at hSw); (subst hSw); go_simp <;> with_reducible rfl)
          try simp only [Act.put, List.setIfInBounds_toArray, List.set_cons_zero, List.set_cons_succ]
          refine takeL 2 (v := ?_) rfl (by kernel_rfl) (by kernel_rfl) (by kernel_rfl) (fun _ _ _ h => h) (by rfl) (by assumption) ?_ ?_
          rotate_left
          · (intro w hSw; (try dsimp only at hSw); (subst hSw); go_simp <;> with_reducible rfl)
          try simp only [Act.put, List.setIfInBounds_toArray, List.set_cons_zero, List.set_cons_succ]
          refine takeL 3 (v := ?_) rfl (by kernel_rfl) (by kernel_rfl) (by kernel_rfl) (fun _ _ _ h => h) (by rfl) (by assumption) ?_ ?_
          rotate_left
          · (intro w hSw; (try dsimp only at hSw); (subst hSw); go_simp <;> with_reducible rfl)
          try simp only [Act.put, List.setIfInBounds_toArray, List.set_cons_zero, List.set_cons_succ]
          refine takeL 4 (v := ?_) rfl (by kernel_rfl) (by kernel_rfl) (by kernel_rfl) (fun _ _ _ h => h) (by rfl) (by assumption) ?_ ?_
          rotate_left
          · (intro w hSw; (try dsimp only at hSw); (subst hSw); go_simp <;> with_reducible rfl)
          try simp only [Act.put, List.setIfInBounds_toArray, List.set_cons_zero, List.set_cons_succ]
          refine takeL 5 (v := ?_) rfl (by kernel_rfl) (by kernel_rfl) (by kernel_rfl) (fun _ _ _ h => h) (by rfl) (by assumption) ?_ ?_
          rotate_left
          · (intro w hSw; (try dsimp only at hSw); (subst hSw); go_simp <;> with_reducible rfl)
          try simp only [Act.put, List.setIfInBounds_toArray, List.set_cons_zero, List.set_cons_succ]
          refine takeL 6 (v := ?_) rfl (by kernel_rfl) (by kernel_rfl) (by kernel_rfl) (fun _ _ _ h => h) (by rfl) (by assumption) ?_ ?_
          rotate_left
          · (intro w hSw; (try dsimp only at hSw); (subst hSw); go_simp <;> with_reducible rfl)
          try simp only [Act.put, List.setIfInBounds_toArray, List.set_cons_zero, List.set_cons_succ]
          refine takeL 7 (v := ?_) rfl (by kernel_rfl) (by kernel_rfl) (by kernel_rfl) (fun _ _ _ h => h) (by rfl) (by assumption) ?_ ?_
          rotate_left
          · (intro w hSw; (try dsimp only at hSw); (subst hSw); go_simp <;> with_reducible rfl)
          try simp only [Act.put, List.setIfInBounds_toArray, List.set_cons_zero, List.set_cons_succ]
          refine takeL 8 (v := ?_) rfl (by kernel_rfl) (by kernel_rfl) (by kernel_rfl) (fun _ _ _ h => h) (by rfl) (by assumption) ?_ ?_
          rotate_left
          · (intro w hSw; (try dsimp only at hSw); (subst hSw); go_simp <;> with_reducible rfl)
          try simp only [Act.put, List.setIfInBounds_toArray, List.set_cons_zero, List.set_cons_succ]
          refine takeL 9 (v := ?_) rfl (by kernel_rfl) (by kernel_rfl) (by kernel_rfl) (fun _ _ _ h => h) (by rfl) (by assumption) ?_ ?_
          rotate_left
          · (intro w hSw; (try dsimp only at hSw); (subst hSw); go_simp <;> with_reducible rfl)
          try simp only [Act.put, List.setIfInBounds_toArray, List.set_cons_zero, List.set_cons_succ]
          refine takeL 10 (v := ?_) rfl (by kernel_rfl) (by kernel_rfl) (by kernel_rfl) (fun _ _ _ h => h) (by rfl) (by assumption) ?_ ?_
          rotate_left
          · (intro w hSw; (try dsimp only at hSw); (subst hSw); go_simp <;> with_reducible rfl)
          try simp only [Act.put, List.setIfInBounds_toArray, List.set_cons_zero, List.set_cons_succ]
          refine takeL 11 (v := ?_) rfl (by kernel_rfl) (by kernel_rfl) (by kernel_rfl) (fun _ _ _ h => h) (by rfl) (by assumption) ?_ ?_
          rotate_left
          · (intro w hSw; (try dsimp only at hSw); (subst hSw); go_simp <;> with_reducible rfl)
          try simp only [Act.put, List.setIfInBounds_toArray, List.set_cons_zero, List.set_cons_succ]
          refine takeL 12 (v := ?_) rfl (by kernel_rfl) (by kernel_rfl) (by kernel_rfl) (fun _ _ _ h => h) (by rfl) (by assumption) ?_ ?_
          rotate_left
          · (intro w hSw; (try dsimp only at hSw); (subst hSw); go_simp <;> with_reducible rfl)
          try simp only [Act.put, List.setIfInBounds_toArray, List.set_cons_zero, List.set_cons_succ]
          refine takeL 13 (v := ?_) rfl (by kernel_rfl) (by kernel_rfl) (by kernel_rfl) (fun _ _ _ h => h) (by rfl) (by assumption) ?_ ?_
          rotate_left
          · (intro w hSw; (try dsimp only at hSw); (subst hSw); go_simp <;> with_reducible rfl)
          try simp only [Act.put, List.setIfInBounds_toArray, List.set_cons_zero, List.set_cons_succ]
          refine takeL 14 (v := ?_) rfl (by kernel_rfl) (by kernel_rfl) (by kernel_rfl) (fun _ _ _ h => h) (by rfl) (by assumption) ?_ ?_
          rotate_left
          · (intro w hSw; (try dsimp only at hSw); (subst hSw); go_simp <;> with_reducible rfl)
          try simp only [Act.put, List.setIfInBounds_toArray, List.set_cons_zero, List.set_cons_succ]
          refine wpAnyH_done (by kernel_rfl) ?_ _
          go_wp2_with (first | (at_builtin; refine wpList_append_run rfl _ _ 58 rfl _ _ _ rfl rfl hrun ?_) | (at_builtin; refine wpList_append_run rfl _ _ 58 rfl _ _ _ rfl rfl hrun5 ?_))
          go_roundw
          case rel => exact ⟨k + 1, _, by omega, by go_num, rfl, hT2.out, ho5.out, hB5.out⟩
          case measure => simp [intOf]; omega
        · have q1 : decide (a6 < b6) = false := decide_eq_false q
          obtain ⟨v', w3, hrun, ho2, hgg, hn2, _⟩ := appE fT (hv.drew.alloc (.cells (fE ((b1, b2, b3, b4, b5), b6, b7, b8, b9)).toArray (69 : Nat))) (one_fresh wr.drew ((b1, b2, b3, b4, b5), b6, b7, b8, b9)) (by simp; omega) (by omega) (by simp)
          have hB2 := Lib.hid ((hB.drew.alloc hB.drew.size (.cells (fE ((b1, b2, b3, b4, b5), b6, b7, b8, b9)).toArray (69 : Nat))).grown hgg (by simp; omega) (fun j hj => (hv.lt j hj).1))
          have hT2 := Lib.hid (show (l ++ [((b1, b2, b3, b4, b5), b6, b7, b8, b9)], false) = insAll ((a1, a2, a3, a4, a5), a6, a7, a8, a9) (L.take (k + 1)) from by rw [← hTk.out]; simp [insStep, q])
          replace ho2 := Lib.hid ho2
          simp only [fE] at hrun
          clear hv hgg hn2 hTk
          go_wp2_with fail
          refine wp_region_held_drew (S := (fun w' => w' = wr.drew)) (by kernel_rfl) ?_ (fun hHeld => ?_)
          · (try dsimp only)
            all_goals rfl
          refine takeL 0 (v := ?_) rfl (by kernel_rfl) (by kernel_rfl) (by kernel_rfl) (fun _ _ _ h => h) (by rfl) (by assumption) ?_ ?_
          rotate_left
          · (intro w hSw; (try dsimp only at hSw); (subst hSw); go_simp <;> with_reducible rfl)
          try simp only [Act.put, List.setIfInBounds_toArray, List.set_cons_zero, List.set_cons_succ]
          refine takeL 1 (v := ?_) rfl (by kernel_rfl) (by kernel_rfl) (by kernel_rfl) (fun _ _ _ h => h) (by rfl) (by assumption) ?_ ?_
          rotate_left
          · (intro w hSw; (try dsimp only at hSw); (subst hSw); go_simp <;> with_reducible rfl)
          try simp only [Act.put, List.setIfInBounds_toArray, List.set_cons_zero, List.set_cons_succ]
          refine takeL 2 (v := ?_) rfl (by kernel_rfl) (by kernel_rfl) (by kernel_rfl) (fun _ _ _ h => h) (by rfl) (by assumption) ?_ ?_
          rotate_left
          · (intro w hSw; (try dsimp only at hSw); (subst hSw); go_simp <;> with_reducible rfl)
          try simp only [Act.put, List.setIfInBounds_toArray, List.set_cons_zero, List.set_cons_succ]
          refine takeL 3 (v := ?_) rfl (by kernel_rfl) (by kernel_rfl) (by kernel_rfl) (fun _ _ _ h => h) (by rfl) (by assumption) ?_ ?_
          rotate_left
          · (intro w hSw; (try dsimp only at hSw); (subst hSw); go_simp <;> with_reducible rfl)
          try simp only [Act.put, List.setIfInBounds_toArray, List.set_cons_zero, List.set_cons_succ]
          refine takeL 4 (v := ?_) rfl (by kernel_rfl) (by kernel_rfl) (by kernel_rfl) (fun _ _ _ h => h) (by rfl) (by assumption) ?_ ?_
          rotate_left
          · (intro w hSw; (try dsimp only at hSw); (subst hSw); go_simp <;> with_reducible rfl)
          try simp only [Act.put, List.setIfInBounds_toArray, List.set_cons_zero, List.set_cons_succ]
          refine takeL 5 (v := ?_) rfl (by kernel_rfl) (by kernel_rfl) (by kernel_rfl) (fun _ _ _ h => h) (by rfl) (by assumption) ?_ ?_
          rotate_left
          · (intro w hSw; (try dsimp only at hSw); (subst hSw); go_simp <;> with_reducible rfl)
          try simp only [Act.put, List.setIfInBounds_toArray, List.set_cons_zero, List.set_cons_succ]
          refine takeL 6 (v := ?_) rfl (by kernel_rfl) (by kernel_rfl) (by kernel_rfl) (fun _ _ _ h => h) (by rfl) (by assumption) ?_ ?_
          rotate_left
          · (intro w hSw; (try dsimp only at hSw); (subst hSw); go_simp <;> with_reducible rfl)
          try simp only [Act.put, List.setIfInBounds_toArray, List.set_cons_zero, List.set_cons_succ]
          refine takeL 7 (v := ?_) rfl (by kernel_rfl) (by kernel_rfl) (by kernel_rfl) (fun _ _ _ h => h) (by rfl) (by assumption) ?_ ?_
          rotate_left
          · (intro w hSw; (try dsimp only at hSw); (subst hSw); go_simp <;> with_reducible rfl)
          try simp only [Act.put, List.setIfInBounds_toArray, List.set_cons_zero, List.set_cons_succ]
          refine takeL 8 (v := ?_) rfl (by kernel_rfl) (by kernel_rfl) (by kernel_rfl) (fun _ _ _ h => h) (by rfl) (by assumption) ?_ ?_
          rotate_left
          · (intro w hSw; (try dsimp only at hSw); (subst hSw); go_simp <;> with_reducible rfl)
          try simp only [Act.put, List.setIfInBounds_toArray, List.set_cons_zero, List.set_cons_succ]
          refine takeL 9 (v := ?_) rfl (by kernel_rfl) (by kernel_rfl) (by kernel_rfl) (fun _ _ _ h => h) (by rfl) (by assumption) ?_ ?_
          rotate_left
          · (intro w hSw; (try dsimp only at hSw); (subst hSw); go_simp <;> with_reducible rfl)
          try simp only [Act.put, List.setIfInBounds_toArray, List.set_cons_zero, List.set_cons_succ]
          refine takeL 10 (v := ?_) rfl (by kernel_rfl) (by kernel_rfl) (by kernel_rfl) (fun _ _ _ h => h) (by rfl) (by assumption) ?_ ?_
          rotate_left
          · (intro w hSw; (try dsimp only at hSw); (subst hSw); go_simp <;> with_reducible rfl)
          try simp only [Act.put, List.setIfInBounds_toArray, List.set_cons_zero, List.set_cons_succ]
          refine takeL 11 (v := ?_) rfl (by kernel_rfl) (by kernel_rfl) (by kernel_rfl) (fun _ _ _ h => h) (by rfl) (by assumption) ?_ ?_
          rotate_left
          · (intro w hSw; (try dsimp only at hSw); (subst hSw); go_simp <;> with_reducible rfl)
          try simp only [Act.put, List.setIfInBounds_toArray, List.set_cons_zero, List.set_cons_succ]
          refine takeL 12 (v := ?_) rfl (by kernel_rfl) (by kernel_rfl) (by kernel_rfl) (fun _ _ _ h => h) (by rfl) (by assumption) ?_ ?_
          rotate_left
          · (intro w hSw; (try dsimp only at hSw); (subst hSw); go_simp <;> with_reducible rfl)
          try simp only [Act.put, List.setIfInBounds_toArray, List.set_cons_zero, List.set_cons_succ]
          refine takeL 13 (v := ?_) rfl (by kernel_rfl) (by kernel_rfl) (by kernel_rfl) (fun _ _ _ h => h) (by rfl) (by assumption) ?_ ?_
          rotate_left
          · (intro w hSw; (try dsimp only at hSw); (subst hSw); go_simp <;> with_reducible rfl)
          try simp only [Act.put, List.setIfInBounds_toArray, List.set_cons_zero, List.set_cons_succ]
          refine takeL 14 (v := ?_) rfl (by kernel_rfl) (by kernel_rfl) (by kernel_rfl) (fun _ _ _ h => h) (by rfl) (by assumption) ?_ ?_
          rotate_left
          · (intro w hSw; (try dsimp only at hSw); (subst hSw); go_simp <;> with_reducible rfl)
          try simp only [Act.put, List.setIfInBounds_toArray, List.set_cons_zero, List.set_cons_succ]
          refine wpAnyH_done (by kernel_rfl) ?_ _
          go_wp2_with (at_builtin; refine wpList_append_run rfl _ _ 58 rfl _ _ _ rfl rfl hrun ?_)
          go_roundw
          case rel => exact ⟨k + 1, _, by omega, by go_num, rfl, hT2.out, ho2.out, hB2.out⟩
          case measure => simp [intOf]; omega
    · obtain rfl : k = m := by omega
      rw [hE.out] at ht
      have f3 := hRr.cells.2 3
      have hBlr : B < wr.heap.size := by omega
      obtain ⟨l, d⟩ := t
      simp only [] at *
      cases d with
      | true =>
        have hins := Lib.hid (show insF L ((a1, a2, a3, a4, a5), a6, a7, a8, a9) = l from by rw [hI.out, ← ht.out]; simp)
        obtain ⟨n2, hn2⟩ : ∃ n2, l.length = n2 := ⟨_, rfl⟩
        obtain ⟨A5, cap5, rfl, _⟩ := (hv.el fE_len).form hn2
        have hFin := Lib.hid (refMake_close hS2.out hB hRr hv)
        clear hRr hv hRR gr1 g1 p0 p1 p2 p3 p4 p5 p6 p7 p8 hn2 ht
        go_wp2_with fail
        go_end0
        refine ⟨rfl, ?_⟩
        rw [hins.out]
        exact hFin.out
      | false =>
        have hins := Lib.hid (show insF L ((a1, a2, a3, a4, a5), a6, a7, a8, a9) = l ++ [((a1, a2, a3, a4, a5), a6, a7, a8, a9)] from by rw [hI.out, ← ht.out]; simp)
        have hll := hLn.out k (Nat.le_refl _)
        rw [hE.out, ← ht.out] at hll
        simp only [] at hll
        obtain ⟨v', w3, hrun, ho2, hgg, hn2, _⟩ := appE fT (hv.alloc (.cells (fE ((a1, a2, a3, a4, a5), a6, a7, a8, a9)).toArray (69 : Nat))) (one_fresh wr ((a1, a2, a3, a4, a5), a6, a7, a8, a9)) (by simp; omega) (by omega) (by simp)
        have hB2 := (hB.alloc hB.size (.cells (fE ((a1, a2, a3, a4, a5), a6, a7, a8, a9)).toArray (69 : Nat))).grown hgg (by simp; omega) (fun j hj => (hv.lt j hj).1)
        have hR3 := hRR.keep hB2
        have c3b := hR3.cells.1.2.2.2.1
        have f3b := hR3.cells.2 3
        obtain ⟨n2, hn2⟩ : ∃ n2, (l ++ [((a1, a2, a3, a4, a5), a6, a7, a8, a9)]).length = n2 := ⟨_, rfl⟩
        obtain ⟨A5, cap5, rfl, _⟩ := (ho2.el fE_len).form hn2
        have hFin := Lib.hid (refMake_close hS2.out hB2 hR3 ho2)
        simp only [fE] at hrun
        clear hRr hR3 hv hRR gr1 g1 hn2 ht ho2 hgg hB2 hll
        go_wp2_with (at_builtin; refine wpList_append_run rfl _ _ 58 rfl _ _ _ rfl rfl hrun ?_)
        go_end0
        refine ⟨rfl, ?_⟩
        rw [hins.out]
        exact hFin.out
end Go.Proofs.Ytcemiclbeocnjaa
