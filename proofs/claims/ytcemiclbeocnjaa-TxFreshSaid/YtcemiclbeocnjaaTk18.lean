/-
  Layer 20 (tx): an operation with both transactions: they are told alike, and stay alike.
-/
import Derived.Test.YtcemiclbeocnjaaTk17
set_option linter.unusedVariables false
set_option linter.unusedSimpArgs false
namespace Go.Proofs.Ytcemiclbeocnjaa
open Go.RowKit Go.ChangeShapes Go.WideShapes Go.Deep Go.Maps

/-- both transactions, since a world -/
structure BothN (w0 w : World) (B : Nat) (F : Nat → Prop) (s : St) (B2 : Nat) (G : Nat → Prop) (r : Rf) : Prop where
  tx : TxN w0 w B F s
  rf : RfAt w B2 G r
  low : ∀ k, G k → w0.heap.size ≤ k
  ap : Apart F G
theorem BothN.tstep {w0 w w' : World} {B B2 : Nat} {F F' G : Nat → Prop} {s s' : St} {r : Rf} (h : BothN w0 w B F s B2 G r) (hs : Step F w F' w') (ht : TxAt w' B F' s') : BothN w0 w' B F' s' B2 G r :=
  ⟨h.tx.go hs ht, h.rf.chg hs.chg (fun k g f => h.ap k f g), h.low, h.ap.step hs h.rf.lt⟩
theorem BothN.rstep {w0 w w' : World} {B B2 : Nat} {F G G' : Nat → Prop} {s : St} {r r' : Rf} (h : BothN w0 w B F s B2 G r) (hs : Step G w G' w') (hr : RfAt w' B2 G' r') : BothN w0 w' B F s B2 G' r' :=
  ⟨⟨h.tx.tx.chg hs.chg (fun k f g => h.ap k f g), h.tx.low, h.tx.bel.trans (hs.chg.below h.low h.tx.bel.size)⟩, hr, fun k g => by
    rcases hs.sub k g with q | q
    · exact h.low k q
    · exact Nat.le_trans h.tx.bel.size q, fun k f g => by
    rcases hs.sub k g with q | q
    · exact h.ap k f q
    · have := h.tx.tx.lt k f; omega⟩
theorem BothN.keep {w0 w w' : World} {B B2 : Nat} {F G : Nat → Prop} {s : St} {r : Rf} (h : BothN w0 w B F s B2 G r) (hb : Below w.heap.size w w') : BothN w0 w' B F s B2 G r :=
  ⟨h.tx.keep hb, h.rf.keep hb, h.low, h.ap⟩
/-- they are alike, k operations behind New -/
def DoP (w0 : World) (B B2 k : Nat) (w : World) : Prop := ∃ F s G r, BothN w0 w B F s B2 G r ∧ Rel s r k
theorem Rel.deep {s : St} {r : Rf} {k : Nat} (h : Rel s r k) (d : Int) (h0 : 0 ≤ d) (h1 : d ≤ k + 1) : Rel { s with depth := d } { r with depth := d } (k + 1) :=
  ⟨rfl, h.bad, h.gone, h.root, h.named, h.keys, h.made, h.words, h.ok, h.fr, by have := h.n; simp only []; omega, h0, by push_cast; exact h1, by have := h.gl; simp only []; omega, by have := h.ml; simp only []; omega, h.cnt, h.sp⟩
theorem Rel.spoil {s : St} {r : Rf} {k : Nat} (h : Rel s r k) : Rel { s with bad := true } { r with bad := true } k :=
  ⟨h.depth, rfl, h.gone, h.root, h.named, h.keys, h.made, h.words, h.ok, h.fr, h.n, h.d0, h.d1, h.gl, h.ml, h.cnt, h.sp⟩
theorem Rel.name {s : St} {r : Rf} {k : Nat} (h : Rel s r k) (x : Int) : Rel { s with root := x, named := true } { r with root := x, is := true } k :=
  ⟨h.depth, h.bad, h.gone, rfl, rfl, h.keys, h.made, h.words, h.ok, h.fr, h.n, h.d0, h.d1, h.gl, h.ml, h.cnt, h.sp⟩
theorem Rel.free {s : St} {r : Rf} {k : Nat} (h : Rel s r k) (x : Int) : Rel { s with gone := s.gone ++ [x] } { r with gone := r.gone ++ [x] } (k + 1) :=
  ⟨h.depth, h.bad, by show s.gone ++ [x] = r.gone ++ [x]; rw [h.gone], h.root, h.named, h.keys, h.made, h.words, h.ok, h.fr, by have := h.n; simp only []; omega, h.d0, by have := h.d1; simp only []; omega, by have := h.gl; simp; omega, by have := h.ml; simp only []; omega, h.cnt, h.sp⟩
theorem blk12 {w : World} {g : Nat} {u0 u1 u2 u3 u4 u5 u6 u7 u8 u9 u10 u11 : Value} {t : TypeId} (h : w.heap[g]? = some (.cells #[u0, u1, u2, u3, u4, u5, u6, u7, u8, u9, u10, u11] t (0, 0))) : w.cell? ⟨g, 0, none⟩ = some u0 ∧ w.cell? ⟨g, 1, none⟩ = some u1 ∧ w.cell? ⟨g, 2, none⟩ = some u2 ∧ w.cell? ⟨g, 3, none⟩ = some u3 ∧ w.cell? ⟨g, 4, none⟩ = some u4 ∧ w.cell? ⟨g, 5, none⟩ = some u5 ∧ w.cell? ⟨g, 6, none⟩ = some u6 ∧ w.cell? ⟨g, 7, none⟩ = some u7 ∧ w.cell? ⟨g, 8, none⟩ = some u8 ∧ w.cell? ⟨g, 9, none⟩ = some u9 ∧ w.cell? ⟨g, 10, none⟩ = some u10 ∧ w.cell? ⟨g, 11, none⟩ = some u11 :=
  ⟨(cell_blk h rfl).1, (cell_blk h rfl).1, (cell_blk h rfl).1, (cell_blk h rfl).1, (cell_blk h rfl).1, (cell_blk h rfl).1, (cell_blk h rfl).1, (cell_blk h rfl).1, (cell_blk h rfl).1, (cell_blk h rfl).1, (cell_blk h rfl).1, (cell_blk h rfl).1⟩
theorem gone_close {w2 : World} {B2 : Nat} {G : Nat → Prop} {r : Rf} {x : Int} (h : RfAt w2 B2 G r) (hl : r.gone.length ≤ 1000000) : ∃ v4 v' w3, w2.cell? ⟨B2, 4, none⟩ = some v4 ∧ (∃ A n cap, v4 = .slice A n cap) ∧
    (Builtin.append_ #[43, 43] 43 #[v4, .slice (some ⟨w2.heap.size, 0, none⟩) 1 1]).run Try.prog (w2.alloc (.cells #[.int .i64 x] (3 : Nat))) = .ok v' w3 ∧ (w3.cell? ⟨B2, 4, none⟩ = some v4 ∧ w3.frozen? ⟨B2, 4, none⟩ = false) ∧ (∃ A n cap, v' = .slice A n cap) ∧
    ∃ G', RfAt (w3.setCell ⟨B2, 4, none⟩ v') B2 G' { r with gone := r.gone ++ [x] } ∧ Step G w2 G' (w3.setCell ⟨B2, 4, none⟩ v') := by
  obtain ⟨v2, v3, v4, hR⟩ := h
  have hb := (Below.refl _ w2).alloc (Nat.le_refl _) (.cells #[.int .i64 x] (3 : Nat))
  have hR1 := hR.keep hb
  obtain ⟨v', w3, hrun, ho, hg, hn, _⟩ := appE iT hR1.gone (one_int w2 x) (Nat.zero_le _) hl (by simp)
  refine ⟨v4, v', w3, hR.cells.1.2.2.2.2.1, ?_, hrun, hR1.goneCell hg, ?_, _, ⟨_, _, _, hR1.goneTo hg ho⟩, fun j e => ?_, (Chg.of_below G hb).trans ((Chg.of_grown (S := G) hg (fun j e => .inl (hR1.g4 j e))).trans (Chg.setCell (S := G) w3 B2 4 _ hR1.gB) (fun j q => .inl q)) (fun j q => .inl q)⟩
  · obtain ⟨A, cap, e, _⟩ := (hR.gone.el iE_len).form rfl
    exact ⟨A, _, cap, e⟩
  · obtain ⟨A, cap, e, _⟩ := (ho.el iE_len).form rfl
    exact ⟨A, _, cap, e⟩
  · rcases e with e | e
    · exact .inl e
    · rcases hn with q | q
      · rw [q] at e; exact .inl (hR1.g4 j e)
      · rw [q] at e; cases e; exact .inr (by simp)
attribute [local irreducible] wpList

set_option maxRecDepth 10000 in
set_option maxHeartbeats 4000000 in
theorem do_0 {w0 w : World} {B B2 k : Nat} {F G : Nat → Prop} {s : St} {r : Rf} (fr mn a1 a2 a3 a4 : Int) (a5 : Bool) (at_ a7 sz a9 : Int) (hb : BothN w0 w B F s B2 G r) (hr : Rel s r k) (hk : k ≤ 100) (f1 : 0 ≤ fr) (f2 : fr ≤ 200) (f3 : 0 ≤ mn) (f4 : mn ≤ 60) (f5 : 0 ≤ at_) (f6 : at_ ≤ 200) (f7 : 0 ≤ sz) (f8 : sz ≤ 18) (f9 : at_ % 20 = 0) :
    Calls Try.prog 32 #[.pointer (some ⟨B, 0, none⟩), .pointer (some ⟨B2, 0, none⟩), .agg #[.int .u8 0, .int .i64 fr, .int .i64 mn, .int .i64 a1, .int .i64 a2, .int .i64 a3, .int .i64 a4, .bool a5, .int .i64 at_, .int .i64 a7, .int .i64 sz, .int .u64 a9]] w fun e w' => e = .returned (.bool true) ∧ DoP w0 B B2 (k + 1) w' := by
  have hW := hb.keep ((Below.refl _ w).alloc (Nat.le_refl _) (.cells #[.int .u8 0, .int .i64 fr, .int .i64 mn, .int .i64 a1, .int .i64 a2, .int .i64 a3, .int .i64 a4, .bool a5, .int .i64 at_, .int .i64 a7, .int .i64 sz, .int .u64 a9] (71 : Nat)))
  have hbx : (w.alloc (.cells #[.int .u8 0, .int .i64 fr, .int .i64 mn, .int .i64 a1, .int .i64 a2, .int .i64 a3, .int .i64 a4, .bool a5, .int .i64 at_, .int .i64 a7, .int .i64 sz, .int .u64 a9] (71 : Nat))).heap[w.heap.size]? = some (.cells #[.int .u8 0, .int .i64 fr, .int .i64 mn, .int .i64 a1, .int .i64 a2, .int .i64 a3, .int .i64 a4, .bool a5, .int .i64 at_, .int .i64 a7, .int .i64 sz, .int .u64 a9] (71 : Nat) (0, 0)) := World.alloc_heap_new w _
  have hlF := Lib.hid hb.tx.tx.lt
  have hlG := Lib.hid hb.rf.lt
  have hBlt := hb.tx.tx.lt _ hb.tx.tx.fB
  have hB2lt := hb.rf.lt _ hb.rf.gB
  clear hb
  obtain ⟨w1, hw1⟩ : ∃ w1, w.alloc (.cells #[.int .u8 0, .int .i64 fr, .int .i64 mn, .int .i64 a1, .int .i64 a2, .int .i64 a3, .int .i64 a4, .bool a5, .int .i64 at_, .int .i64 a7, .int .i64 sz, .int .u64 a9] (71 : Nat)) = w1 := ⟨_, rfl⟩
  have hs1 : w1.heap.size = w.heap.size + 1 := by rw [← hw1]; simp
  rw [hw1] at hW hbx
  obtain ⟨x0, x1, x2, x3, x4, x5, x6, x7, x8, x9, x10, x11⟩ := blk12 hbx
  obtain ⟨d, hd⟩ : ∃ d, s.depth + 1 = d := ⟨_, rfl⟩
  have hd0 := hr.d0
  have hd1 := hr.d1
  have hd2 : 0 ≤ d ∧ d ≤ k + 1 := by omega
  obtain ⟨v2, v3, v4, hR⟩ := hW.rf
  have c0 := hR.cells.1.1
  have z0 := hR.cells.2 0
  rw [← hr.depth] at c0
  have hRp := hR.put (o := 0) (u := .int .i64 d) (r' := { r with depth := d }) rfl rfl rfl rfl
  have hB1 := (hW.rstep (Step.same (Chg.setCell w1 B2 0 (.int .i64 d) hR.gB)) ⟨_, _, _, hRp⟩).keep ((Below.refl _ _).drew)
  have hBe := begin_N hB1.tx hr.d0 (by omega)
  rw [hd] at hBe
  have hRel := Lib.hid (hr.deep d hd2.1 hd2.2)
  have y0 : (w1.setCell ⟨B2, 0, none⟩ (.int .i64 d)).drew.cell? ⟨B2, 0, none⟩ = some (.int .i64 d) := hRp.cells.1.1
  have hKp := Lib.hid (fun (w8 : World) (h : Step F (w1.setCell ⟨B2, 0, none⟩ (.int .i64 d)).drew F w8) => show w8.cell? ⟨B2, 0, none⟩ = some (.int .i64 d) from by
    obtain ⟨v2, v3, v4, hR8⟩ := hB1.rf.chg h.chg (fun k g f => hB1.ap k f g)
    exact hR8.cells.1.1)
  have hBt := Lib.hid (fun (w8 : World) (h : Step F (w1.setCell ⟨B2, 0, none⟩ (.int .i64 d)).drew F w8) (ht : TxAt w8 B F { s with depth := d }) => hB1.tstep h ht)
  clear hW hR hRp hB1 hr
  have hwd : IntKind.i64.wrap d = d := by rw [IntKind.wrap_i64]; omega
  generalize s.depth = d0 at *
  go_enter Try.func32, Try.ntmps32
  go_wp2_with fail
  refine wp_region_held_drew (S := (fun w' => w'.cell? ⟨B2, 0, none⟩ = some (.int .i64 d))) (by kernel_rfl) ?_ (fun hHeld => ?_)
  · (try dsimp only)
    first | exact y0 | exact y8
  refine takeL 0 (v := ?_) rfl (by kernel_rfl) (by kernel_rfl) (by kernel_rfl) (fun _ _ _ h => h) (by rfl) (by assumption) ?_ ?_
  rotate_left
  · (intro w hSw; (try dsimp only at hSw); go_simp <;> with_reducible rfl)
  try simp only [Act.put, List.setIfInBounds_toArray, List.set_cons_zero, List.set_cons_succ]
  refine takeL 2 (v := ?_) rfl (by kernel_rfl) (by kernel_rfl) (by kernel_rfl) (fun _ _ _ h => h) (by rfl) (by assumption) ?_ ?_
  rotate_left
  · (intro w hSw; (try dsimp only at hSw); go_simp <;> with_reducible rfl)
  try simp only [Act.put, List.setIfInBounds_toArray, List.set_cons_zero, List.set_cons_succ]
  refine takeL 3 (v := ?_) rfl (by kernel_rfl) (by kernel_rfl) (by kernel_rfl) (fun _ _ _ h => h) (by rfl) (by assumption) ?_ ?_
  rotate_left
  · (intro w hSw; (try dsimp only at hSw); go_simp <;> with_reducible rfl)
  try simp only [Act.put, List.setIfInBounds_toArray, List.set_cons_zero, List.set_cons_succ]
  refine takeL 4 (v := ?_) rfl (by kernel_rfl) (by kernel_rfl) (by kernel_rfl) (fun _ _ _ h => h) (by rfl) (by assumption) ?_ ?_
  rotate_left
  · (intro w hSw; (try dsimp only at hSw); go_simp <;> with_reducible rfl)
  try simp only [Act.put, List.setIfInBounds_toArray, List.set_cons_zero, List.set_cons_succ]
  refine takeL 5 (v := ?_) rfl (by kernel_rfl) (by kernel_rfl) (by kernel_rfl) (fun _ _ _ h => h) (by rfl) (by assumption) ?_ ?_
  rotate_left
  · (intro w hSw; (try dsimp only at hSw); go_simp <;> with_reducible rfl)
  try simp only [Act.put, List.setIfInBounds_toArray, List.set_cons_zero, List.set_cons_succ]
  refine oneL 1 rfl (by kernel_rfl) (fun K hK => ?_)
  go_simp
  ((with_reducible refine hBe.mono ?_); rintro e w8 ⟨rfl, T8, S8⟩; have hD := Lib.hid (show DoP w0 B B2 (k + 1) w8 from ⟨_, _, _, _, hBt.out w8 S8 T8.tx, hRel.out⟩); have y8 := hKp.out w8 S8; clear hBe T8 S8)
  refine hK.out _ _ ?_ (fun hHeld2 => ?_)
  · (try dsimp only)
    first | exact y0 | exact y8
  clear hK K hHeld
  have hHeld := hHeld2
  clear hHeld2
  try simp only [Act.put, List.setIfInBounds_toArray, List.set_cons_zero, List.set_cons_succ]
  refine takeL 6 (v := ?_) rfl (by kernel_rfl) (by kernel_rfl) (by kernel_rfl) (fun _ _ _ h => h) (by rfl) (by assumption) ?_ ?_
  rotate_left
  · (intro w hSw; (try dsimp only at hSw); go_simp <;> with_reducible rfl)
  try simp only [Act.put, List.setIfInBounds_toArray, List.set_cons_zero, List.set_cons_succ]
  refine takeL 7 (v := ?_) rfl (by kernel_rfl) (by kernel_rfl) (by kernel_rfl) (fun _ _ _ h => h) (by rfl) (by assumption) ?_ ?_
  rotate_left
  · (intro w hSw; (try dsimp only at hSw); go_simp <;> with_reducible rfl)
  try simp only [Act.put, List.setIfInBounds_toArray, List.set_cons_zero, List.set_cons_succ]
  refine wpAnyH_done (by kernel_rfl) ?_ _
  go_wp2_with fail
  go_ret
  exact ⟨by simp, hD.out⟩

set_option maxRecDepth 10000 in
set_option maxHeartbeats 4000000 in
theorem do_1 {w0 w : World} {B B2 k : Nat} {F G : Nat → Prop} {s : St} {r : Rf} (fr mn a1 a2 a3 a4 : Int) (a5 : Bool) (at_ a7 sz a9 : Int) (hb : BothN w0 w B F s B2 G r) (hr : Rel s r k) (hk : k ≤ 100) (f1 : 0 ≤ fr) (f2 : fr ≤ 200) (f3 : 0 ≤ mn) (f4 : mn ≤ 60) (f5 : 0 ≤ at_) (f6 : at_ ≤ 200) (f7 : 0 ≤ sz) (f8 : sz ≤ 18) (f9 : at_ % 20 = 0) :
    Calls Try.prog 32 #[.pointer (some ⟨B, 0, none⟩), .pointer (some ⟨B2, 0, none⟩), .agg #[.int .u8 1, .int .i64 fr, .int .i64 mn, .int .i64 a1, .int .i64 a2, .int .i64 a3, .int .i64 a4, .bool a5, .int .i64 at_, .int .i64 a7, .int .i64 sz, .int .u64 a9]] w fun e w' => e = .returned (.bool true) ∧ DoP w0 B B2 (k + 1) w' := by
  have hW := hb.keep ((Below.refl _ w).alloc (Nat.le_refl _) (.cells #[.int .u8 1, .int .i64 fr, .int .i64 mn, .int .i64 a1, .int .i64 a2, .int .i64 a3, .int .i64 a4, .bool a5, .int .i64 at_, .int .i64 a7, .int .i64 sz, .int .u64 a9] (71 : Nat)))
  have hbx : (w.alloc (.cells #[.int .u8 1, .int .i64 fr, .int .i64 mn, .int .i64 a1, .int .i64 a2, .int .i64 a3, .int .i64 a4, .bool a5, .int .i64 at_, .int .i64 a7, .int .i64 sz, .int .u64 a9] (71 : Nat))).heap[w.heap.size]? = some (.cells #[.int .u8 1, .int .i64 fr, .int .i64 mn, .int .i64 a1, .int .i64 a2, .int .i64 a3, .int .i64 a4, .bool a5, .int .i64 at_, .int .i64 a7, .int .i64 sz, .int .u64 a9] (71 : Nat) (0, 0)) := World.alloc_heap_new w _
  have hlF := Lib.hid hb.tx.tx.lt
  have hlG := Lib.hid hb.rf.lt
  have hBlt := hb.tx.tx.lt _ hb.tx.tx.fB
  have hB2lt := hb.rf.lt _ hb.rf.gB
  clear hb
  obtain ⟨w1, hw1⟩ : ∃ w1, w.alloc (.cells #[.int .u8 1, .int .i64 fr, .int .i64 mn, .int .i64 a1, .int .i64 a2, .int .i64 a3, .int .i64 a4, .bool a5, .int .i64 at_, .int .i64 a7, .int .i64 sz, .int .u64 a9] (71 : Nat)) = w1 := ⟨_, rfl⟩
  have hs1 : w1.heap.size = w.heap.size + 1 := by rw [← hw1]; simp
  rw [hw1] at hW hbx
  obtain ⟨x0, x1, x2, x3, x4, x5, x6, x7, x8, x9, x10, x11⟩ := blk12 hbx
  obtain ⟨d, hd⟩ : ∃ d, max (s.depth - 1) 0 = d := ⟨_, rfl⟩
  have hd0 := hr.d0
  have hd1 := hr.d1
  have hd2 : 0 ≤ d ∧ d ≤ k + 1 := by omega
  obtain ⟨v2, v3, v4, hR⟩ := hW.rf
  have c0 := hR.cells.1.1
  have z0 := hR.cells.2 0
  rw [← hr.depth] at c0
  have hRp := hR.put (o := 0) (u := .int .i64 d) (r' := { r with depth := d }) rfl rfl rfl rfl
  have hB1 := (hW.rstep (Step.same (Chg.setCell w1 B2 0 (.int .i64 d) hR.gB)) ⟨_, _, _, hRp⟩).keep ((Below.refl _ _).drew)
  have hBe := end_N hB1.tx hr.d0 (by omega)
  rw [hd] at hBe
  have hRel := Lib.hid (hr.deep d hd2.1 hd2.2)
  have y0 : (w1.setCell ⟨B2, 0, none⟩ (.int .i64 d)).drew.cell? ⟨B2, 0, none⟩ = some (.int .i64 d) := hRp.cells.1.1
  have hKp := Lib.hid (fun (w8 : World) (h : Step F (w1.setCell ⟨B2, 0, none⟩ (.int .i64 d)).drew F w8) => show w8.cell? ⟨B2, 0, none⟩ = some (.int .i64 d) from by
    obtain ⟨v2, v3, v4, hR8⟩ := hB1.rf.chg h.chg (fun k g f => hB1.ap k f g)
    exact hR8.cells.1.1)
  have hBt := Lib.hid (fun (w8 : World) (h : Step F (w1.setCell ⟨B2, 0, none⟩ (.int .i64 d)).drew F w8) (ht : TxAt w8 B F { s with depth := d }) => hB1.tstep h ht)
  clear hW hR hRp hB1 hr
  have hm1 : (if s.depth - 1 < 0 then (0 : Int) else s.depth - 1) = d := by rw [← hd]; split <;> omega
  have hm2 : (if (0 : Int) ≤ s.depth - 1 then s.depth - 1 else (0 : Int)) = d := by rw [← hd]; split <;> omega
  have hm3 : (if s.depth - 1 ≤ 0 then (0 : Int) else s.depth - 1) = d := by rw [← hd]; split <;> omega
  have hm4 : (if (0 : Int) < s.depth - 1 then s.depth - 1 else (0 : Int)) = d := by rw [← hd]; split <;> omega
  have hm5 : max (0 : Int) (s.depth - 1) = d := by rw [← hd]; omega
  have hwd : IntKind.i64.wrap d = d := by rw [IntKind.wrap_i64]; omega
  generalize s.depth = d0 at *
  go_enter Try.func32, Try.ntmps32
  go_wp2_with fail
  refine wp_region_held_drew (S := (fun w' => w'.cell? ⟨B2, 0, none⟩ = some (.int .i64 d))) (by kernel_rfl) ?_ (fun hHeld => ?_)
  · (try dsimp only)
    first | exact y0 | exact y8
  refine takeL 0 (v := ?_) rfl (by kernel_rfl) (by kernel_rfl) (by kernel_rfl) (fun _ _ _ h => h) (by rfl) (by assumption) ?_ ?_
  rotate_left
  · (intro w hSw; (try dsimp only at hSw); go_simp <;> with_reducible rfl)
  try simp only [Act.put, List.setIfInBounds_toArray, List.set_cons_zero, List.set_cons_succ]
  refine takeL 2 (v := ?_) rfl (by kernel_rfl) (by kernel_rfl) (by kernel_rfl) (fun _ _ _ h => h) (by rfl) (by assumption) ?_ ?_
  rotate_left
  · (intro w hSw; (try dsimp only at hSw); go_simp <;> with_reducible rfl)
  try simp only [Act.put, List.setIfInBounds_toArray, List.set_cons_zero, List.set_cons_succ]
  refine takeL 3 (v := ?_) rfl (by kernel_rfl) (by kernel_rfl) (by kernel_rfl) (fun _ _ _ h => h) (by rfl) (by assumption) ?_ ?_
  rotate_left
  · (intro w hSw; (try dsimp only at hSw); go_simp <;> with_reducible rfl)
  try simp only [Act.put, List.setIfInBounds_toArray, List.set_cons_zero, List.set_cons_succ]
  refine takeL 4 (v := ?_) rfl (by kernel_rfl) (by kernel_rfl) (by kernel_rfl) (fun _ _ _ h => h) (by rfl) (by assumption) ?_ ?_
  rotate_left
  · (intro w hSw; (try dsimp only at hSw); go_simp <;> with_reducible rfl)
  try simp only [Act.put, List.setIfInBounds_toArray, List.set_cons_zero, List.set_cons_succ]
  refine takeL 5 (v := ?_) rfl (by kernel_rfl) (by kernel_rfl) (by kernel_rfl) (fun _ _ _ h => h) (by rfl) (by assumption) ?_ ?_
  rotate_left
  · (intro w hSw; (try dsimp only at hSw); go_simp <;> with_reducible rfl)
  try simp only [Act.put, List.setIfInBounds_toArray, List.set_cons_zero, List.set_cons_succ]
  refine oneL 1 rfl (by kernel_rfl) (fun K hK => ?_)
  go_simp
  ((with_reducible refine hBe.mono ?_); rintro e w8 ⟨rfl, T8, S8⟩; have hD := Lib.hid (show DoP w0 B B2 (k + 1) w8 from ⟨_, _, _, _, hBt.out w8 S8 T8.tx, hRel.out⟩); have y8 := hKp.out w8 S8; clear hBe T8 S8)
  refine hK.out _ _ ?_ (fun hHeld2 => ?_)
  · (try dsimp only)
    first | exact y0 | exact y8
  clear hK K hHeld
  have hHeld := hHeld2
  clear hHeld2
  try simp only [Act.put, List.setIfInBounds_toArray, List.set_cons_zero, List.set_cons_succ]
  refine takeL 6 (v := ?_) rfl (by kernel_rfl) (by kernel_rfl) (by kernel_rfl) (fun _ _ _ h => h) (by rfl) (by assumption) ?_ ?_
  rotate_left
  · (intro w hSw; (try dsimp only at hSw); go_simp <;> with_reducible rfl)
  try simp only [Act.put, List.setIfInBounds_toArray, List.set_cons_zero, List.set_cons_succ]
  refine takeL 7 (v := ?_) rfl (by kernel_rfl) (by kernel_rfl) (by kernel_rfl) (fun _ _ _ h => h) (by rfl) (by assumption) ?_ ?_
  rotate_left
  · (intro w hSw; (try dsimp only at hSw); go_simp <;> with_reducible rfl)
  try simp only [Act.put, List.setIfInBounds_toArray, List.set_cons_zero, List.set_cons_succ]
  refine wpAnyH_done (by kernel_rfl) ?_ _
  go_wp2_with fail
  go_ret
  exact ⟨by simp, hD.out⟩

set_option maxRecDepth 10000 in
set_option maxHeartbeats 4000000 in
theorem do_2 {w0 w : World} {B B2 k : Nat} {F G : Nat → Prop} {s : St} {r : Rf} (fr mn a1 a2 a3 a4 : Int) (a5 : Bool) (at_ a7 sz a9 : Int) (hb : BothN w0 w B F s B2 G r) (hr : Rel s r k) (hk : k ≤ 100) (f1 : 0 ≤ fr) (f2 : fr ≤ 200) (f3 : 0 ≤ mn) (f4 : mn ≤ 60) (f5 : 0 ≤ at_) (f6 : at_ ≤ 200) (f7 : 0 ≤ sz) (f8 : sz ≤ 18) (f9 : at_ % 20 = 0) :
    Calls Try.prog 32 #[.pointer (some ⟨B, 0, none⟩), .pointer (some ⟨B2, 0, none⟩), .agg #[.int .u8 2, .int .i64 fr, .int .i64 mn, .int .i64 a1, .int .i64 a2, .int .i64 a3, .int .i64 a4, .bool a5, .int .i64 at_, .int .i64 a7, .int .i64 sz, .int .u64 a9]] w fun e w' => e = .returned (.bool true) ∧ DoP w0 B B2 (k + 1) w' := by
  have hW := hb.keep ((Below.refl _ w).alloc (Nat.le_refl _) (.cells #[.int .u8 2, .int .i64 fr, .int .i64 mn, .int .i64 a1, .int .i64 a2, .int .i64 a3, .int .i64 a4, .bool a5, .int .i64 at_, .int .i64 a7, .int .i64 sz, .int .u64 a9] (71 : Nat)))
  have hbx : (w.alloc (.cells #[.int .u8 2, .int .i64 fr, .int .i64 mn, .int .i64 a1, .int .i64 a2, .int .i64 a3, .int .i64 a4, .bool a5, .int .i64 at_, .int .i64 a7, .int .i64 sz, .int .u64 a9] (71 : Nat))).heap[w.heap.size]? = some (.cells #[.int .u8 2, .int .i64 fr, .int .i64 mn, .int .i64 a1, .int .i64 a2, .int .i64 a3, .int .i64 a4, .bool a5, .int .i64 at_, .int .i64 a7, .int .i64 sz, .int .u64 a9] (71 : Nat) (0, 0)) := World.alloc_heap_new w _
  have hlF := Lib.hid hb.tx.tx.lt
  have hlG := Lib.hid hb.rf.lt
  have hBlt := hb.tx.tx.lt _ hb.tx.tx.fB
  have hB2lt := hb.rf.lt _ hb.rf.gB
  clear hb
  obtain ⟨w1, hw1⟩ : ∃ w1, w.alloc (.cells #[.int .u8 2, .int .i64 fr, .int .i64 mn, .int .i64 a1, .int .i64 a2, .int .i64 a3, .int .i64 a4, .bool a5, .int .i64 at_, .int .i64 a7, .int .i64 sz, .int .u64 a9] (71 : Nat)) = w1 := ⟨_, rfl⟩
  have hs1 : w1.heap.size = w.heap.size + 1 := by rw [← hw1]; simp
  rw [hw1] at hW hbx
  obtain ⟨x0, x1, x2, x3, x4, x5, x6, x7, x8, x9, x10, x11⟩ := blk12 hbx
  have hSp := Spoil_any B F s w1 hW.tx.tx
  have hRel := Lib.hid ((hr.spoil).mono (Nat.le_succ k))
  go_enter Try.func32, Try.ntmps32
  go_wp2_with (go_at_call 65; refine hSp.mono ?_; rintro e w2 ⟨rfl, T2, S2⟩
               have hB2 := hW.tstep (Step.same S2) T2
               obtain ⟨v2, v3, v4, hR⟩ := hB2.rf
               have c1 := hR.cells.1.2.1
               have z1 := hR.cells.2 1
               have hD := Lib.hid (show DoP w0 B B2 (k + 1) (w2.setCell ⟨B2, 1, none⟩ (.bool true)) from ⟨_, _, _, _, hB2.rstep (Step.same (Chg.setCell w2 B2 1 (.bool true) hR.gB)) ⟨_, _, _, hR.put (o := 1) (u := .bool true) (r' := { r with bad := true }) rfl rfl rfl rfl⟩, hRel.out⟩)
               clear hR hB2 T2 S2 hSp hW hr)
  go_ret
  exact ⟨rfl, hD.out⟩

set_option maxRecDepth 10000 in
set_option maxHeartbeats 4000000 in
theorem do_8 {w0 w : World} {B B2 k : Nat} {F G : Nat → Prop} {s : St} {r : Rf} (fr mn a1 a2 a3 a4 : Int) (a5 : Bool) (at_ a7 sz a9 : Int) (hb : BothN w0 w B F s B2 G r) (hr : Rel s r k) (hk : k ≤ 100) (f1 : 0 ≤ fr) (f2 : fr ≤ 200) (f3 : 0 ≤ mn) (f4 : mn ≤ 60) (f5 : 0 ≤ at_) (f6 : at_ ≤ 200) (f7 : 0 ≤ sz) (f8 : sz ≤ 18) (f9 : at_ % 20 = 0) :
    Calls Try.prog 32 #[.pointer (some ⟨B, 0, none⟩), .pointer (some ⟨B2, 0, none⟩), .agg #[.int .u8 8, .int .i64 fr, .int .i64 mn, .int .i64 a1, .int .i64 a2, .int .i64 a3, .int .i64 a4, .bool a5, .int .i64 at_, .int .i64 a7, .int .i64 sz, .int .u64 a9]] w fun e w' => e = .returned (.bool true) ∧ DoP w0 B B2 (k + 1) w' := by
  have hW := hb.keep ((Below.refl _ w).alloc (Nat.le_refl _) (.cells #[.int .u8 8, .int .i64 fr, .int .i64 mn, .int .i64 a1, .int .i64 a2, .int .i64 a3, .int .i64 a4, .bool a5, .int .i64 at_, .int .i64 a7, .int .i64 sz, .int .u64 a9] (71 : Nat)))
  have hbx : (w.alloc (.cells #[.int .u8 8, .int .i64 fr, .int .i64 mn, .int .i64 a1, .int .i64 a2, .int .i64 a3, .int .i64 a4, .bool a5, .int .i64 at_, .int .i64 a7, .int .i64 sz, .int .u64 a9] (71 : Nat))).heap[w.heap.size]? = some (.cells #[.int .u8 8, .int .i64 fr, .int .i64 mn, .int .i64 a1, .int .i64 a2, .int .i64 a3, .int .i64 a4, .bool a5, .int .i64 at_, .int .i64 a7, .int .i64 sz, .int .u64 a9] (71 : Nat) (0, 0)) := World.alloc_heap_new w _
  have hlF := Lib.hid hb.tx.tx.lt
  have hlG := Lib.hid hb.rf.lt
  have hBlt := hb.tx.tx.lt _ hb.tx.tx.fB
  have hB2lt := hb.rf.lt _ hb.rf.gB
  clear hb
  obtain ⟨w1, hw1⟩ : ∃ w1, w.alloc (.cells #[.int .u8 8, .int .i64 fr, .int .i64 mn, .int .i64 a1, .int .i64 a2, .int .i64 a3, .int .i64 a4, .bool a5, .int .i64 at_, .int .i64 a7, .int .i64 sz, .int .u64 a9] (71 : Nat)) = w1 := ⟨_, rfl⟩
  have hs1 : w1.heap.size = w.heap.size + 1 := by rw [← hw1]; simp
  rw [hw1] at hW hbx
  obtain ⟨x0, x1, x2, x3, x4, x5, x6, x7, x8, x9, x10, x11⟩ := blk12 hbx
  have hSp := Name_any B F s at_ w1 hW.tx.tx
  have hRel := Lib.hid ((hr.name at_).mono (Nat.le_succ k))
  go_enter Try.func32, Try.ntmps32
  go_wp2_with (go_at_call 71; refine hSp.mono ?_; rintro e w2 ⟨rfl, T2, S2⟩
               have hB2 := hW.tstep (Step.same S2) T2
               obtain ⟨v2, v3, v4, hR⟩ := hB2.rf
               have c5 := hR.cells.1.2.2.2.2.2.1
               have z5 := hR.cells.2 5
               have c6 := hR.cells.1.2.2.2.2.2.2
               have z6 := hR.cells.2 6
               have hD := Lib.hid (show DoP w0 B B2 (k + 1) ((w2.setCell ⟨B2, 5, none⟩ (.int .i64 at_)).setCell ⟨B2, 6, none⟩ (.bool true)) from ⟨_, _, _, _, hB2.rstep (Step.same ((Chg.setCell w2 B2 5 (.int .i64 at_) hR.gB).trans (Chg.setCell _ B2 6 (.bool true) hR.gB) (fun j q => .inl q))) ⟨_, _, _, (hR.put (o := 5) (u := .int .i64 at_) (r' := { r with root := at_ }) rfl rfl rfl rfl).put (o := 6) (u := .bool true) (r' := { r with root := at_, is := true }) rfl rfl rfl rfl⟩, hRel.out⟩)
               clear hR hB2 T2 S2 hSp hW hr)
  go_ret
  exact ⟨rfl, hD.out⟩

set_option maxRecDepth 10000 in
set_option maxHeartbeats 4000000 in
theorem do_3 {w0 w : World} {B B2 k : Nat} {F G : Nat → Prop} {s : St} {r : Rf} (fr mn a1 a2 a3 a4 : Int) (a5 : Bool) (at_ a7 sz a9 : Int) (hb : BothN w0 w B F s B2 G r) (hr : Rel s r k) (hk : k ≤ 100) (f1 : 0 ≤ fr) (f2 : fr ≤ 200) (f3 : 0 ≤ mn) (f4 : mn ≤ 60) (f5 : 0 ≤ at_) (f6 : at_ ≤ 200) (f7 : 0 ≤ sz) (f8 : sz ≤ 18) (f9 : at_ % 20 = 0) :
    Calls Try.prog 32 #[.pointer (some ⟨B, 0, none⟩), .pointer (some ⟨B2, 0, none⟩), .agg #[.int .u8 3, .int .i64 fr, .int .i64 mn, .int .i64 a1, .int .i64 a2, .int .i64 a3, .int .i64 a4, .bool a5, .int .i64 at_, .int .i64 a7, .int .i64 sz, .int .u64 a9]] w fun e w' => e = .returned (.bool true) ∧ DoP w0 B B2 (k + 1) w' := by
  have hW := hb.keep ((Below.refl _ w).alloc (Nat.le_refl _) (.cells #[.int .u8 3, .int .i64 fr, .int .i64 mn, .int .i64 a1, .int .i64 a2, .int .i64 a3, .int .i64 a4, .bool a5, .int .i64 at_, .int .i64 a7, .int .i64 sz, .int .u64 a9] (71 : Nat)))
  have hbx : (w.alloc (.cells #[.int .u8 3, .int .i64 fr, .int .i64 mn, .int .i64 a1, .int .i64 a2, .int .i64 a3, .int .i64 a4, .bool a5, .int .i64 at_, .int .i64 a7, .int .i64 sz, .int .u64 a9] (71 : Nat))).heap[w.heap.size]? = some (.cells #[.int .u8 3, .int .i64 fr, .int .i64 mn, .int .i64 a1, .int .i64 a2, .int .i64 a3, .int .i64 a4, .bool a5, .int .i64 at_, .int .i64 a7, .int .i64 sz, .int .u64 a9] (71 : Nat) (0, 0)) := World.alloc_heap_new w _
  have hlF := Lib.hid hb.tx.tx.lt
  have hlG := Lib.hid hb.rf.lt
  have hBlt := hb.tx.tx.lt _ hb.tx.tx.fB
  have hB2lt := hb.rf.lt _ hb.rf.gB
  clear hb
  obtain ⟨w1, hw1⟩ : ∃ w1, w.alloc (.cells #[.int .u8 3, .int .i64 fr, .int .i64 mn, .int .i64 a1, .int .i64 a2, .int .i64 a3, .int .i64 a4, .bool a5, .int .i64 at_, .int .i64 a7, .int .i64 sz, .int .u64 a9] (71 : Nat)) = w1 := ⟨_, rfl⟩
  have hs1 : w1.heap.size = w.heap.size + 1 := by rw [← hw1]; simp
  rw [hw1] at hW hbx
  obtain ⟨x0, x1, x2, x3, x4, x5, x6, x7, x8, x9, x10, x11⟩ := blk12 hbx
  obtain ⟨n, rfl⟩ := Int.eq_ofNat_of_zero_le f3
  have hNt := note_N (a := fr) (b := n) hW.tx (hr.goodS (by omega)) (by unfold SB; simp only []; omega) (inn f1 (by omega))
  have hRel := Lib.hid ((hr.note (a := fr) (n := n) f1 (by omega)).mono (Nat.le_succ k))
  have hGR := Lib.hid (hr.goodR (by omega))
  have hNw := Lib.hid (hr.new fr n)
  have hLk := (hr.mayOk.miss (inn (a := fr) (b := n) f1 (by omega))).len
  go_enter Try.func32, Try.ntmps32
  go_wp2_with (first
    | (go_at_call 35; refine hNt.mono ?_; rintro e w2 ⟨vA, F2, rfl, oA, T2, S2, hge, _⟩
       have hB2 := hW.tstep S2 T2.tx
       have g2 : w2.heap[w.heap.size]? = some _ := (S2.chg.block _ (by omega) (fun q => by have := hlF.out _ q; omega)).trans hbx
       obtain ⟨p0, p1, p2, p3, p4, p5, p6, p7, p8, p9, p10, p11⟩ := blk12 g2
       have hRN := refNote_any B2 G r fr n w2 hB2.rf hGR.out f1 (by omega)
       rw [hNw.out] at hRN
       have hAlt := Lib.hid (fun j (e : vA.ownBlock = some j) => ((ownSp_iff.1 oA.own).lt j e).2)
       have hOA := Lib.hid oA.own
       have hgeA := Lib.hid hge
       clear hNt T2 g2 p0 p3 p4 p5 p6 p7 p9 p10 p11 oA hge)
    | (go_at_call 66; refine hRN.mono ?_; rintro e w3 ⟨vB, rfl, oB, G3, R3, S3, _⟩
       have hD3 := Lib.hid (hB2.rstep S3 R3)
       have oA3 := hOA.out.chg S3.chg (fun j e g => by have := hgeA.out j e; have := hlG.out j g; omega)
       have hSm := same_any vA vB _ _ w3 (by omega) oA3.pl oB.pl
       rw [decide_eq_true rfl] at hSm
       clear hRN hB2 S2 S3 R3 oB oA3)
    | (go_at_call 62; refine hSm.mono ?_; rintro e w4 ⟨rfl, hb4⟩
       have hD := Lib.hid (show DoP w0 B B2 (k + 1) w4 from ⟨_, _, _, _, hD3.out.keep hb4, by have := hRel.out; rw [hNw.out] at this; exact this⟩)
       clear hSm))
  go_ret
  exact ⟨rfl, hD.out⟩

set_option maxRecDepth 10000 in
set_option maxHeartbeats 4000000 in
theorem do_5 {w0 w : World} {B B2 k : Nat} {F G : Nat → Prop} {s : St} {r : Rf} (fr mn a1 a2 a3 a4 : Int) (a5 : Bool) (at_ a7 sz a9 : Int) (hb : BothN w0 w B F s B2 G r) (hr : Rel s r k) (hk : k ≤ 100) (f1 : 0 ≤ fr) (f2 : fr ≤ 200) (f3 : 0 ≤ mn) (f4 : mn ≤ 60) (f5 : 0 ≤ at_) (f6 : at_ ≤ 200) (f7 : 0 ≤ sz) (f8 : sz ≤ 18) (f9 : at_ % 20 = 0) :
    Calls Try.prog 32 #[.pointer (some ⟨B, 0, none⟩), .pointer (some ⟨B2, 0, none⟩), .agg #[.int .u8 5, .int .i64 fr, .int .i64 mn, .int .i64 a1, .int .i64 a2, .int .i64 a3, .int .i64 a4, .bool a5, .int .i64 at_, .int .i64 a7, .int .i64 sz, .int .u64 a9]] w fun e w' => e = .returned (.bool true) ∧ DoP w0 B B2 (k + 1) w' := by
  have hW := hb.keep ((Below.refl _ w).alloc (Nat.le_refl _) (.cells #[.int .u8 5, .int .i64 fr, .int .i64 mn, .int .i64 a1, .int .i64 a2, .int .i64 a3, .int .i64 a4, .bool a5, .int .i64 at_, .int .i64 a7, .int .i64 sz, .int .u64 a9] (71 : Nat)))
  have hbx : (w.alloc (.cells #[.int .u8 5, .int .i64 fr, .int .i64 mn, .int .i64 a1, .int .i64 a2, .int .i64 a3, .int .i64 a4, .bool a5, .int .i64 at_, .int .i64 a7, .int .i64 sz, .int .u64 a9] (71 : Nat))).heap[w.heap.size]? = some (.cells #[.int .u8 5, .int .i64 fr, .int .i64 mn, .int .i64 a1, .int .i64 a2, .int .i64 a3, .int .i64 a4, .bool a5, .int .i64 at_, .int .i64 a7, .int .i64 sz, .int .u64 a9] (71 : Nat) (0, 0)) := World.alloc_heap_new w _
  have hlF := Lib.hid hb.tx.tx.lt
  have hlG := Lib.hid hb.rf.lt
  have hBlt := hb.tx.tx.lt _ hb.tx.tx.fB
  have hB2lt := hb.rf.lt _ hb.rf.gB
  clear hb
  obtain ⟨w1, hw1⟩ : ∃ w1, w.alloc (.cells #[.int .u8 5, .int .i64 fr, .int .i64 mn, .int .i64 a1, .int .i64 a2, .int .i64 a3, .int .i64 a4, .bool a5, .int .i64 at_, .int .i64 a7, .int .i64 sz, .int .u64 a9] (71 : Nat)) = w1 := ⟨_, rfl⟩
  have hs1 : w1.heap.size = w.heap.size + 1 := by rw [← hw1]; simp
  rw [hw1] at hW hbx
  obtain ⟨x0, x1, x2, x3, x4, x5, x6, x7, x8, x9, x10, x11⟩ := blk12 hbx
  have hGF : GoodF ((a1, a2, a3, a4, a5), at_, a7, sz, a9) := ⟨f5, f6, f7, f8, f9⟩
  have hMk := Make_any B F s ((a1, a2, a3, a4, a5), at_, a7, sz, a9) w1 hW.tx.tx ⟨by simp only []; omega, by simp only []; omega⟩ (by have := hr.n; omega)
  have hRel := Lib.hid (hr.make hGF)
  have hml := Lib.hid hr.ml
  simp only [fV, fE] at hMk
  go_enter Try.func32, Try.ntmps32
  go_wp2_with (first
    | (go_at_call 40; refine hMk.mono ?_; rintro e w2 ⟨rfl, T2, S2⟩
       have hB2 := hW.tstep (Step.same S2) T2
       have g2 : w2.heap[w.heap.size]? = some _ := (S2.block _ (by omega) (fun q => by have := hlF.out _ q; omega)).trans hbx
       obtain ⟨p0, p1, p2, p3, p4, p5, p6, p7, p8, p9, p10, p11⟩ := blk12 g2
       have hRM := refMake_any B2 G r ((a1, a2, a3, a4, a5), at_, a7, sz, a9) w2 hB2.rf (by have := hml.out; omega)
       simp only [fV, fE] at hRM
       clear hMk T2 g2 p0 p1 p2 S2 hr)
    | (go_at_call 68; refine hRM.mono ?_; rintro e w3 ⟨rfl, G3, R3, S3⟩
       have hD := Lib.hid (show DoP w0 B B2 (k + 1) w3 from ⟨_, _, _, _, hB2.rstep S3 R3, hRel.out⟩)
       clear hRM hB2 S3 R3))
  go_ret
  exact ⟨rfl, hD.out⟩

set_option maxRecDepth 10000 in
set_option maxHeartbeats 4000000 in
theorem do_6 {w0 w : World} {B B2 k : Nat} {F G : Nat → Prop} {s : St} {r : Rf} (fr mn a1 a2 a3 a4 : Int) (a5 : Bool) (at_ a7 sz a9 : Int) (hb : BothN w0 w B F s B2 G r) (hr : Rel s r k) (hk : k ≤ 100) (f1 : 0 ≤ fr) (f2 : fr ≤ 200) (f3 : 0 ≤ mn) (f4 : mn ≤ 60) (f5 : 0 ≤ at_) (f6 : at_ ≤ 200) (f7 : 0 ≤ sz) (f8 : sz ≤ 18) (f9 : at_ % 20 = 0) :
    Calls Try.prog 32 #[.pointer (some ⟨B, 0, none⟩), .pointer (some ⟨B2, 0, none⟩), .agg #[.int .u8 6, .int .i64 fr, .int .i64 mn, .int .i64 a1, .int .i64 a2, .int .i64 a3, .int .i64 a4, .bool a5, .int .i64 at_, .int .i64 a7, .int .i64 sz, .int .u64 a9]] w fun e w' => e = .returned (.bool true) ∧ DoP w0 B B2 (k + 1) w' := by
  have hW := hb.keep ((Below.refl _ w).alloc (Nat.le_refl _) (.cells #[.int .u8 6, .int .i64 fr, .int .i64 mn, .int .i64 a1, .int .i64 a2, .int .i64 a3, .int .i64 a4, .bool a5, .int .i64 at_, .int .i64 a7, .int .i64 sz, .int .u64 a9] (71 : Nat)))
  have hbx : (w.alloc (.cells #[.int .u8 6, .int .i64 fr, .int .i64 mn, .int .i64 a1, .int .i64 a2, .int .i64 a3, .int .i64 a4, .bool a5, .int .i64 at_, .int .i64 a7, .int .i64 sz, .int .u64 a9] (71 : Nat))).heap[w.heap.size]? = some (.cells #[.int .u8 6, .int .i64 fr, .int .i64 mn, .int .i64 a1, .int .i64 a2, .int .i64 a3, .int .i64 a4, .bool a5, .int .i64 at_, .int .i64 a7, .int .i64 sz, .int .u64 a9] (71 : Nat) (0, 0)) := World.alloc_heap_new w _
  have hlF := Lib.hid hb.tx.tx.lt
  have hlG := Lib.hid hb.rf.lt
  have hBlt := hb.tx.tx.lt _ hb.tx.tx.fB
  have hB2lt := hb.rf.lt _ hb.rf.gB
  clear hb
  obtain ⟨w1, hw1⟩ : ∃ w1, w.alloc (.cells #[.int .u8 6, .int .i64 fr, .int .i64 mn, .int .i64 a1, .int .i64 a2, .int .i64 a3, .int .i64 a4, .bool a5, .int .i64 at_, .int .i64 a7, .int .i64 sz, .int .u64 a9] (71 : Nat)) = w1 := ⟨_, rfl⟩
  have hs1 : w1.heap.size = w.heap.size + 1 := by rw [← hw1]; simp
  rw [hw1] at hW hbx
  obtain ⟨x0, x1, x2, x3, x4, x5, x6, x7, x8, x9, x10, x11⟩ := blk12 hbx
  have hUn := Unmake_any B F s at_ w1 hW.tx.tx ⟨by omega, by omega⟩
  obtain ⟨hRel0, hlk⟩ := hr.unmake at_
  have hRel := Lib.hid (hRel0.mono (Nat.le_succ k))
  have hml := Lib.hid hr.ml
  obtain ⟨f, hfq⟩ : ∃ f, (s.fresh at_).getD fx0 = f := ⟨_, rfl⟩
  obtain ⟨okx, hokq⟩ : ∃ b, (s.fresh at_).isSome = b := ⟨_, rfl⟩
  rw [hfq, hokq] at hUn
  have hRf := Lib.hid (show (lookF r.fresh at_).getD fx0 = f ∧ (lookF r.fresh at_).isSome = okx from by rw [hlk]; exact ⟨hfq, hokq⟩)
  obtain ⟨⟨y1, y2, y3, y4, y5⟩, y6, y7, y8, y9⟩ := f
  have t1 : (okx == okx) = true := by simp
  simp only [fV, fE] at hUn
  clear hRel0 hlk hfq hokq
  go_enter Try.func32, Try.ntmps32
  go_wp2_with (first
    | (go_at_call 41; refine hUn.mono ?_; rintro e w2 ⟨rfl, T2, S2⟩
       have hBA := (Below.refl _ w2).alloc (Nat.le_refl _) (.cells #[.int .i64 y1, .int .i64 y2, .int .i64 y3, .int .i64 y4, .bool y5, .int .i64 y6, .int .i64 y7, .int .i64 y8, .int .u64 y9] (69 : Nat))
       have hB2 := (hW.tstep (Step.same S2) T2).keep hBA
       have hRU := refUnmake_any B2 G r at_ _ hB2.rf (by have := hml.out; omega)
       rw [hRf.out.1, hRf.out.2] at hRU
       simp only [fV, fE] at hRU
       have hlG2 := Lib.hid (fun j (q : G j) => show j < w2.heap.size from by have := hlG.out j q; have := S2.size; omega)
       clear hUn T2 S2 hr)
    | (go_at_call 69; refine hRU.mono ?_; rintro e w3 ⟨rfl, G3, R3, S3⟩
       have hB3 := hB2.rstep S3 R3
       have g3 : w3.heap[w2.heap.size]? = some (.cells #[.int .i64 y1, .int .i64 y2, .int .i64 y3, .int .i64 y4, .bool y5, .int .i64 y6, .int .i64 y7, .int .i64 y8, .int .u64 y9] (69 : Nat) (0, 0)) := (S3.chg.block _ (by simp) (fun q => by have := hlG2.out _ q; omega)).trans (World.alloc_heap_new w2 _)
       obtain ⟨⟨p0, p1, p2, p3, p4, p5, p6, p7, p8⟩, _⟩ := blk9 g3
       have hs3 : w2.heap.size < w3.heap.size := (Array.getElem?_eq_some_iff.1 g3).1
       have hD := Lib.hid (show DoP w0 B B2 (k + 1) (w3.alloc (.cells #[.int .i64 y1, .int .i64 y2, .int .i64 y3, .int .i64 y4, .bool y5, .int .i64 y6, .int .i64 y7, .int .i64 y8, .int .u64 y9] (69 : Nat))) from ⟨_, _, _, _, hB3.keep ((Below.refl _ w3).alloc (Nat.le_refl _) _), hRel.out⟩)
       clear hRU hB2 S3 R3 hB3 g3))
  go_ret
  exact ⟨rfl, hD.out⟩

set_option maxRecDepth 10000 in
set_option maxHeartbeats 4000000 in
theorem do_7y {w0 w : World} {B B2 k : Nat} {F G : Nat → Prop} {s : St} {r : Rf} (fr mn a1 a2 a3 a4 : Int) (a5 : Bool) (at_ a7 sz a9 : Int) (hin : at_ ∈ s.gone) (hb : BothN w0 w B F s B2 G r) (hr : Rel s r k) (hk : k ≤ 100) (f1 : 0 ≤ fr) (f2 : fr ≤ 200) (f3 : 0 ≤ mn) (f4 : mn ≤ 60) (f5 : 0 ≤ at_) (f6 : at_ ≤ 200) (f7 : 0 ≤ sz) (f8 : sz ≤ 18) (f9 : at_ % 20 = 0) :
    Calls Try.prog 32 #[.pointer (some ⟨B, 0, none⟩), .pointer (some ⟨B2, 0, none⟩), .agg #[.int .u8 7, .int .i64 fr, .int .i64 mn, .int .i64 a1, .int .i64 a2, .int .i64 a3, .int .i64 a4, .bool a5, .int .i64 at_, .int .i64 a7, .int .i64 sz, .int .u64 a9]] w fun e w' => e = .returned (.bool true) ∧ DoP w0 B B2 (k + 1) w' := by
  have hW := hb.keep ((Below.refl _ w).alloc (Nat.le_refl _) (.cells #[.int .u8 7, .int .i64 fr, .int .i64 mn, .int .i64 a1, .int .i64 a2, .int .i64 a3, .int .i64 a4, .bool a5, .int .i64 at_, .int .i64 a7, .int .i64 sz, .int .u64 a9] (71 : Nat)))
  have hbx : (w.alloc (.cells #[.int .u8 7, .int .i64 fr, .int .i64 mn, .int .i64 a1, .int .i64 a2, .int .i64 a3, .int .i64 a4, .bool a5, .int .i64 at_, .int .i64 a7, .int .i64 sz, .int .u64 a9] (71 : Nat))).heap[w.heap.size]? = some (.cells #[.int .u8 7, .int .i64 fr, .int .i64 mn, .int .i64 a1, .int .i64 a2, .int .i64 a3, .int .i64 a4, .bool a5, .int .i64 at_, .int .i64 a7, .int .i64 sz, .int .u64 a9] (71 : Nat) (0, 0)) := World.alloc_heap_new w _
  have hlF := Lib.hid hb.tx.tx.lt
  have hlG := Lib.hid hb.rf.lt
  have hBlt := hb.tx.tx.lt _ hb.tx.tx.fB
  have hB2lt := hb.rf.lt _ hb.rf.gB
  clear hb
  obtain ⟨w1, hw1⟩ : ∃ w1, w.alloc (.cells #[.int .u8 7, .int .i64 fr, .int .i64 mn, .int .i64 a1, .int .i64 a2, .int .i64 a3, .int .i64 a4, .bool a5, .int .i64 at_, .int .i64 a7, .int .i64 sz, .int .u64 a9] (71 : Nat)) = w1 := ⟨_, rfl⟩
  have hs1 : w1.heap.size = w.heap.size + 1 := by rw [← hw1]; simp
  rw [hw1] at hW hbx
  obtain ⟨x0, x1, x2, x3, x4, x5, x6, x7, x8, x9, x10, x11⟩ := blk12 hbx
  have hFd := refFreed_any B2 G r at_ w1 hW.rf (by rw [← hr.gone]; have := hr.gl; omega)
  rw [← hr.gone, decide_eq_true hin] at hFd
  have hgl := Lib.hid hr.gl
  have hRel := Lib.hid (hr.mono (Nat.le_succ k))
  go_enter Try.func32, Try.ntmps32
  go_wp2_with (first
    | (go_at_call 70; refine hFd.mono ?_; rintro e w2 ⟨rfl, hb2⟩
       have hB2 := hW.keep hb2
       have hFr := Free_no B F s at_ w2 hB2.tx.tx (by have := hgl.out; omega) hin
       clear hFd)
    | (go_at_call 63; refine hFr.mono ?_; rintro e w3 ⟨rfl, hb3⟩
       have hD := Lib.hid (show DoP w0 B B2 (k + 1) w3 from ⟨_, _, _, _, hB2.keep hb3, hRel.out⟩)
       clear hFr hB2))
  go_ret
  exact ⟨rfl, hD.out⟩

set_option maxRecDepth 10000 in
set_option maxHeartbeats 4000000 in
theorem do_7n {w0 w : World} {B B2 k : Nat} {F G : Nat → Prop} {s : St} {r : Rf} (fr mn a1 a2 a3 a4 : Int) (a5 : Bool) (at_ a7 sz a9 : Int) (hin : ¬ at_ ∈ s.gone) (hb : BothN w0 w B F s B2 G r) (hr : Rel s r k) (hk : k ≤ 100) (f1 : 0 ≤ fr) (f2 : fr ≤ 200) (f3 : 0 ≤ mn) (f4 : mn ≤ 60) (f5 : 0 ≤ at_) (f6 : at_ ≤ 200) (f7 : 0 ≤ sz) (f8 : sz ≤ 18) (f9 : at_ % 20 = 0) :
    Calls Try.prog 32 #[.pointer (some ⟨B, 0, none⟩), .pointer (some ⟨B2, 0, none⟩), .agg #[.int .u8 7, .int .i64 fr, .int .i64 mn, .int .i64 a1, .int .i64 a2, .int .i64 a3, .int .i64 a4, .bool a5, .int .i64 at_, .int .i64 a7, .int .i64 sz, .int .u64 a9]] w fun e w' => e = .returned (.bool true) ∧ DoP w0 B B2 (k + 1) w' := by
  have hW := hb.keep ((Below.refl _ w).alloc (Nat.le_refl _) (.cells #[.int .u8 7, .int .i64 fr, .int .i64 mn, .int .i64 a1, .int .i64 a2, .int .i64 a3, .int .i64 a4, .bool a5, .int .i64 at_, .int .i64 a7, .int .i64 sz, .int .u64 a9] (71 : Nat)))
  have hbx : (w.alloc (.cells #[.int .u8 7, .int .i64 fr, .int .i64 mn, .int .i64 a1, .int .i64 a2, .int .i64 a3, .int .i64 a4, .bool a5, .int .i64 at_, .int .i64 a7, .int .i64 sz, .int .u64 a9] (71 : Nat))).heap[w.heap.size]? = some (.cells #[.int .u8 7, .int .i64 fr, .int .i64 mn, .int .i64 a1, .int .i64 a2, .int .i64 a3, .int .i64 a4, .bool a5, .int .i64 at_, .int .i64 a7, .int .i64 sz, .int .u64 a9] (71 : Nat) (0, 0)) := World.alloc_heap_new w _
  have hlF := Lib.hid hb.tx.tx.lt
  have hlG := Lib.hid hb.rf.lt
  have hBlt := hb.tx.tx.lt _ hb.tx.tx.fB
  have hB2lt := hb.rf.lt _ hb.rf.gB
  clear hb
  obtain ⟨w1, hw1⟩ : ∃ w1, w.alloc (.cells #[.int .u8 7, .int .i64 fr, .int .i64 mn, .int .i64 a1, .int .i64 a2, .int .i64 a3, .int .i64 a4, .bool a5, .int .i64 at_, .int .i64 a7, .int .i64 sz, .int .u64 a9] (71 : Nat)) = w1 := ⟨_, rfl⟩
  have hs1 : w1.heap.size = w.heap.size + 1 := by rw [← hw1]; simp
  rw [hw1] at hW hbx
  obtain ⟨x0, x1, x2, x3, x4, x5, x6, x7, x8, x9, x10, x11⟩ := blk12 hbx
  have hFd := refFreed_any B2 G r at_ w1 hW.rf (by rw [← hr.gone]; have := hr.gl; omega)
  rw [← hr.gone, decide_eq_false hin] at hFd
  have hgl := Lib.hid hr.gl
  have hrg := Lib.hid hr.gone
  have hRel := Lib.hid (hr.free at_)
  go_enter Try.func32, Try.ntmps32
  go_wp2_with (first
    | (go_at_call 70; refine hFd.mono ?_; rintro e w2 ⟨rfl, hb2⟩
       have hB2 := hW.keep hb2
       obtain ⟨v4, v', w3, c4, ⟨A4, n4, cap4, rfl⟩, hrun, ⟨d4, z4⟩, ⟨A5, n5, cap5, rfl⟩, G3, hR3, hS3⟩ := gone_close (x := at_) hB2.rf (by rw [← hrg.out]; have := hgl.out; omega)
       have hB3 := hB2.rstep hS3 hR3
       have hFr := Free_yes B F s at_ _ hB3.tx.tx (by have := hgl.out; omega) hin
       have hB3h := Lib.hid hB3
       have hB2lt2 : B2 < w2.heap.size := hB2.rf.lt _ hB2.rf.gB
       clear hFd hS3 hR3 hB3 hB2 hW)
    | (at_builtin; refine wpList_append_run rfl _ _ 43 rfl _ _ _ rfl rfl hrun ?_)
    | (go_at_call 63; refine hFr.mono ?_; rintro e w5 ⟨rfl, ⟨F5, T5, s5⟩, C5⟩
       have hD := Lib.hid (show DoP w0 B B2 (k + 1) w5 from ⟨_, _, _, _, hB3h.out.tstep ⟨s5, C5⟩ T5, hRel.out⟩)
       clear hFr T5 s5 C5))
  go_ret
  exact ⟨rfl, hD.out⟩

set_option maxRecDepth 10000 in
set_option maxHeartbeats 4000000 in
theorem do_9 {w0 w : World} {B B2 k : Nat} {F G : Nat → Prop} {s : St} {r : Rf} (fr mn a1 a2 a3 a4 : Int) (a5 : Bool) (at_ a7 sz a9 : Int) (kd : Nat) (hkd : 9 ≤ kd) (hb : BothN w0 w B F s B2 G r) (hr : Rel s r k) (hk : k ≤ 100) (f1 : 0 ≤ fr) (f2 : fr ≤ 200) (f3 : 0 ≤ mn) (f4 : mn ≤ 60) (f5 : 0 ≤ at_) (f6 : at_ ≤ 200) (f7 : 0 ≤ sz) (f8 : sz ≤ 18) (f9 : at_ % 20 = 0) :
    Calls Try.prog 32 #[.pointer (some ⟨B, 0, none⟩), .pointer (some ⟨B2, 0, none⟩), .agg #[.int .u8 (kd : Nat), .int .i64 fr, .int .i64 mn, .int .i64 a1, .int .i64 a2, .int .i64 a3, .int .i64 a4, .bool a5, .int .i64 at_, .int .i64 a7, .int .i64 sz, .int .u64 a9]] w fun e w' => e = .returned (.bool true) ∧ DoP w0 B B2 (k + 1) w' := by
  have hW := hb.keep ((Below.refl _ w).alloc (Nat.le_refl _) (.cells #[.int .u8 (kd : Nat), .int .i64 fr, .int .i64 mn, .int .i64 a1, .int .i64 a2, .int .i64 a3, .int .i64 a4, .bool a5, .int .i64 at_, .int .i64 a7, .int .i64 sz, .int .u64 a9] (71 : Nat)))
  have hbx : (w.alloc (.cells #[.int .u8 (kd : Nat), .int .i64 fr, .int .i64 mn, .int .i64 a1, .int .i64 a2, .int .i64 a3, .int .i64 a4, .bool a5, .int .i64 at_, .int .i64 a7, .int .i64 sz, .int .u64 a9] (71 : Nat))).heap[w.heap.size]? = some (.cells #[.int .u8 (kd : Nat), .int .i64 fr, .int .i64 mn, .int .i64 a1, .int .i64 a2, .int .i64 a3, .int .i64 a4, .bool a5, .int .i64 at_, .int .i64 a7, .int .i64 sz, .int .u64 a9] (71 : Nat) (0, 0)) := World.alloc_heap_new w _
  have hlF := Lib.hid hb.tx.tx.lt
  have hlG := Lib.hid hb.rf.lt
  have hBlt := hb.tx.tx.lt _ hb.tx.tx.fB
  have hB2lt := hb.rf.lt _ hb.rf.gB
  clear hb
  obtain ⟨w1, hw1⟩ : ∃ w1, w.alloc (.cells #[.int .u8 (kd : Nat), .int .i64 fr, .int .i64 mn, .int .i64 a1, .int .i64 a2, .int .i64 a3, .int .i64 a4, .bool a5, .int .i64 at_, .int .i64 a7, .int .i64 sz, .int .u64 a9] (71 : Nat)) = w1 := ⟨_, rfl⟩
  have hs1 : w1.heap.size = w.heap.size + 1 := by rw [← hw1]; simp
  rw [hw1] at hW hbx
  obtain ⟨x0, x1, x2, x3, x4, x5, x6, x7, x8, x9, x10, x11⟩ := blk12 hbx
  have q0 : ((kd : Int) == (0 : Int)) = false := by rw [beq_eq_false_iff_ne]; omega
  have q1 : ((kd : Int) == (1 : Int)) = false := by rw [beq_eq_false_iff_ne]; omega
  have q2 : ((kd : Int) == (2 : Int)) = false := by rw [beq_eq_false_iff_ne]; omega
  have q3 : ((kd : Int) == (3 : Int)) = false := by rw [beq_eq_false_iff_ne]; omega
  have q4 : ((kd : Int) == (4 : Int)) = false := by rw [beq_eq_false_iff_ne]; omega
  have q5 : ((kd : Int) == (5 : Int)) = false := by rw [beq_eq_false_iff_ne]; omega
  have q6 : ((kd : Int) == (6 : Int)) = false := by rw [beq_eq_false_iff_ne]; omega
  have q7 : ((kd : Int) == (7 : Int)) = false := by rw [beq_eq_false_iff_ne]; omega
  have q8 : ((kd : Int) == (8 : Int)) = false := by rw [beq_eq_false_iff_ne]; omega
  have hD := Lib.hid (show DoP w0 B B2 (k + 1) w1 from ⟨_, _, _, _, hW, hr.mono (Nat.le_succ k)⟩)
  clear hW hr
  go_enter Try.func32, Try.ntmps32
  go_wp2_with fail
  go_ret
  exact ⟨rfl, hD.out⟩

set_option maxRecDepth 10000 in
set_option maxHeartbeats 4000000 in
theorem do_4 {w0 w : World} {B B2 k : Nat} {F G : Nat → Prop} {s : St} {r : Rf} (fr mn a1 a2 a3 a4 : Int) (a5 : Bool) (at_ a7 sz a9 : Int) (hb : BothN w0 w B F s B2 G r) (hr : Rel s r k) (hk : k ≤ 100) (f1 : 0 ≤ fr) (f2 : fr ≤ 200) (f3 : 0 ≤ mn) (f4 : mn ≤ 60) (f5 : 0 ≤ at_) (f6 : at_ ≤ 200) (f7 : 0 ≤ sz) (f8 : sz ≤ 18) (f9 : at_ % 20 = 0) :
    Calls Try.prog 32 #[.pointer (some ⟨B, 0, none⟩), .pointer (some ⟨B2, 0, none⟩), .agg #[.int .u8 4, .int .i64 fr, .int .i64 mn, .int .i64 a1, .int .i64 a2, .int .i64 a3, .int .i64 a4, .bool a5, .int .i64 at_, .int .i64 a7, .int .i64 sz, .int .u64 a9]] w fun e w' => e = .returned (.bool true) ∧ DoP w0 B B2 (k + 1) w' := by
  have hW := hb.keep ((Below.refl _ w).alloc (Nat.le_refl _) (.cells #[.int .u8 4, .int .i64 fr, .int .i64 mn, .int .i64 a1, .int .i64 a2, .int .i64 a3, .int .i64 a4, .bool a5, .int .i64 at_, .int .i64 a7, .int .i64 sz, .int .u64 a9] (71 : Nat)))
  have hbx : (w.alloc (.cells #[.int .u8 4, .int .i64 fr, .int .i64 mn, .int .i64 a1, .int .i64 a2, .int .i64 a3, .int .i64 a4, .bool a5, .int .i64 at_, .int .i64 a7, .int .i64 sz, .int .u64 a9] (71 : Nat))).heap[w.heap.size]? = some (.cells #[.int .u8 4, .int .i64 fr, .int .i64 mn, .int .i64 a1, .int .i64 a2, .int .i64 a3, .int .i64 a4, .bool a5, .int .i64 at_, .int .i64 a7, .int .i64 sz, .int .u64 a9] (71 : Nat) (0, 0)) := World.alloc_heap_new w _
  have hlF := Lib.hid hb.tx.tx.lt
  have hlG := Lib.hid hb.rf.lt
  have hBlt := hb.tx.tx.lt _ hb.tx.tx.fB
  have hB2lt := hb.rf.lt _ hb.rf.gB
  clear hb
  obtain ⟨w1, hw1⟩ : ∃ w1, w.alloc (.cells #[.int .u8 4, .int .i64 fr, .int .i64 mn, .int .i64 a1, .int .i64 a2, .int .i64 a3, .int .i64 a4, .bool a5, .int .i64 at_, .int .i64 a7, .int .i64 sz, .int .u64 a9] (71 : Nat)) = w1 := ⟨_, rfl⟩
  have hs1 : w1.heap.size = w.heap.size + 1 := by rw [← hw1]; simp
  rw [hw1] at hW hbx
  obtain ⟨x0, x1, x2, x3, x4, x5, x6, x7, x8, x9, x10, x11⟩ := blk12 hbx
  obtain ⟨n, rfl⟩ := Int.eq_ofNat_of_zero_le f3
  have hWd := hW.keep ((Below.refl _ w1).drew)
  have hMy := may_N (a := fr) (b := n) hWd.tx (hr.goodS (by omega)) (by unfold SB; simp only []; omega)
  have hGR := Lib.hid (hr.goodR (by omega))
  have hMt := Lib.hid (fun (t : Bool) (h : t = true ↔ ∀ z, fr ≤ z → z < fr + n → noB r z = false) => hr.may (a := fr) (n := n) (t := t) h)
  have hRel := Lib.hid (hr.mono (Nat.le_succ k))
  generalize covS (mayL s) (fr, (n : Int)) = cv at *
  have t1 : (cv == cv) = true := by simp
  have hKp := Lib.hid (fun (w8 : World) (h : Below w1.drew.heap.size w1.drew w8) => show w8.cell? ⟨w.heap.size, 1, none⟩ = some (.int .i64 fr) ∧ w8.cell? ⟨w.heap.size, 2, none⟩ = some (.int .i64 n) from by
    have g2 := (h.block w.heap.size (by simp; omega)).trans (show w1.drew.heap[w.heap.size]? = _ from hbx)
    obtain ⟨p0, p1, p2, _⟩ := blk12 g2
    exact ⟨p1, p2⟩)
  clear hW hr
  go_enter Try.func32, Try.ntmps32
  go_wp2_with fail
  refine wp_region_held_drew (S := (fun w' => w'.cell? ⟨w.heap.size, 1, none⟩ = some (.int .i64 fr) ∧ w'.cell? ⟨w.heap.size, 2, none⟩ = some (.int .i64 n))) (by kernel_rfl) ?_ (fun hHeld => ?_)
  · (try dsimp only)
    first | exact hKp.out _ hbK | exact hKp.out _ (Below.refl _ _)
  refine takeL 0 (v := ?_) rfl (by kernel_rfl) (by kernel_rfl) (by kernel_rfl) (fun _ _ _ h => h) (by rfl) (by assumption) ?_ ?_
  rotate_left
  · (intro w hSw; (try dsimp only at hSw); go_simp <;> with_reducible rfl)
  try simp only [Act.put, List.setIfInBounds_toArray, List.set_cons_zero, List.set_cons_succ]
  refine takeL 1 (v := ?_) rfl (by kernel_rfl) (by kernel_rfl) (by kernel_rfl) (fun _ _ _ h => h) (by rfl) (by assumption) ?_ ?_
  rotate_left
  · (intro w hSw; (try dsimp only at hSw); go_simp <;> with_reducible rfl)
  try simp only [Act.put, List.setIfInBounds_toArray, List.set_cons_zero, List.set_cons_succ]
  refine takeL 2 (v := ?_) rfl (by kernel_rfl) (by kernel_rfl) (by kernel_rfl) (fun _ _ _ h => h) (by rfl) (by assumption) ?_ ?_
  rotate_left
  · (intro w hSw; (try dsimp only at hSw); go_simp <;> with_reducible rfl)
  try simp only [Act.put, List.setIfInBounds_toArray, List.set_cons_zero, List.set_cons_succ]
  refine takeL 4 (v := ?_) rfl (by kernel_rfl) (by kernel_rfl) (by kernel_rfl) (fun _ _ _ h => h) (by rfl) (by assumption) ?_ ?_
  rotate_left
  · (intro w hSw; (try dsimp only at hSw); go_simp <;> with_reducible rfl)
  try simp only [Act.put, List.setIfInBounds_toArray, List.set_cons_zero, List.set_cons_succ]
  refine takeL 5 (v := ?_) rfl (by kernel_rfl) (by kernel_rfl) (by kernel_rfl) (fun _ _ _ h => h) (by rfl) (by assumption) ?_ ?_
  rotate_left
  · (intro w hSw; (try dsimp only at hSw); go_simp <;> with_reducible rfl)
  try simp only [Act.put, List.setIfInBounds_toArray, List.set_cons_zero, List.set_cons_succ]
  refine takeL 6 (v := ?_) rfl (by kernel_rfl) (by kernel_rfl) (by kernel_rfl) (fun _ _ _ h => h) (by rfl) (by assumption) ?_ ?_
  rotate_left
  · (intro w hSw; (try dsimp only at hSw); go_simp <;> with_reducible rfl)
  try simp only [Act.put, List.setIfInBounds_toArray, List.set_cons_zero, List.set_cons_succ]
  refine oneL 3 rfl (by kernel_rfl) (fun K hK => ?_)
  go_simp
  ((with_reducible refine hMy.mono ?_); rintro e w8 ⟨rfl, _, hb8, _⟩; have hB8 := hWd.keep hb8; have hRM := refMay_any B2 G r fr n w8 hB8.rf hGR.out f1 (by omega) (by omega); have hbK := hb8; clear hMy)
  refine hK.out _ _ ?_ (fun hHeld2 => ?_)
  · (try dsimp only)
    first | exact hKp.out _ hbK | exact hKp.out _ (Below.refl _ _)
  clear hK K hHeld
  have hHeld := hHeld2
  clear hHeld2
  try simp only [Act.put, List.setIfInBounds_toArray, List.set_cons_zero, List.set_cons_succ]
  refine oneL 7 rfl (by kernel_rfl) (fun K hK => ?_)
  go_simp
  ((with_reducible refine hRM.mono ?_); rintro e w9 ⟨t, rfl, ht, hb9⟩; obtain rfl := hMt.out t ht; have hD := Lib.hid (show DoP w0 B B2 (k + 1) w9 from ⟨_, _, _, _, hB8.keep hb9, hRel.out⟩); replace hbK := hb8.trans (hb9.mono hb8.size); clear hRM ht hB8)
  refine hK.out _ _ ?_ (fun hHeld2 => ?_)
  · (try dsimp only)
    first | exact hKp.out _ hbK | exact hKp.out _ (Below.refl _ _)
  clear hK K hHeld
  have hHeld := hHeld2
  clear hHeld2
  try simp only [Act.put, List.setIfInBounds_toArray, List.set_cons_zero, List.set_cons_succ]
  refine takeL 8 (v := ?_) rfl (by kernel_rfl) (by kernel_rfl) (by kernel_rfl) (fun _ _ _ h => h) (by rfl) (by assumption) ?_ ?_
  rotate_left
  · (intro w hSw; (try dsimp only at hSw); go_simp <;> with_reducible rfl)
  try simp only [Act.put, List.setIfInBounds_toArray, List.set_cons_zero, List.set_cons_succ]
  refine takeL 9 (v := ?_) rfl (by kernel_rfl) (by kernel_rfl) (by kernel_rfl) (fun _ _ _ h => h) (by rfl) (by assumption) ?_ ?_
  rotate_left
  · (intro w hSw; (try dsimp only at hSw); go_simp <;> with_reducible rfl)
  try simp only [Act.put, List.setIfInBounds_toArray, List.set_cons_zero, List.set_cons_succ]
  refine wpAnyH_done (by kernel_rfl) ?_ _
  go_wp2_with fail
  go_ret
  exact ⟨by simp, hD.out⟩
end Go.Proofs.Ytcemiclbeocnjaa
