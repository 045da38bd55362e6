/-
  The law IndexPlays: both indexes at work, side by side.
-/
import Derived.Test.YtnjifmecaeagaaaDoorQY
import Derived.Test.YtnjifmecaeagaaaDoorQIxK
import Derived.Test.YtnjifmecaeagaaaDoorQT
import Derived.Test.YtnjifmecaeagaaaDoorQO
import Derived.Test.YtnjifmecaeagaaaDoorQS
import Derived.Test.YtnjifmecaeagaaaDoorQF
set_option linter.unusedVariables false
set_option linter.unusedSimpArgs false
namespace Go.Proofs.YtnjifmecaeagaaaDoor
open Go.Lib Go.RowKit Go.ChangeShapes Go.WideShapes Go.Deep
theorem turn_ok {S : List St} (h : SOk S) (ch ix cl mn : Int) (is nx : Nat) (hnx : nx = 0 ∨ nx = 1) : SOk (turnS S ch ix cl mn is nx).2 ∧ (turnS S ch ix cl mn is nx).2.length = S.length := by
  unfold turnS
  by_cases h0 : 0 ≤ ch ∧ ch < S.length
  · rw [if_pos h0]
    obtain ⟨i, rfl⟩ : ∃ i : Nat, ch = (i : Int) := ⟨ch.toNat, by omega⟩
    have hi : i < S.length := by omega
    rw [Int.toNat_natCast]
    by_cases hc : cl = -1
    · rw [if_pos hc]
      generalize (if tknD (gS S i) then 2 else 1) = now
      split
      · rename_i c2
        obtain ⟨k2, m2, x0, _⟩ := c2
        obtain ⟨q1, q2⟩ := huge_many h hi k2
        rcases hnx with rfl | rfl
        · simp only [if_true]
          rw [m2, Int.toNat_natCast]
          refine ⟨(clear_ok h hi k2 (fill_len _ _ _ _) (fun k => ?_)).1, fill_len _ _ _ _⟩
          exact fill_at S i (0, 0, 0) (mN (gS S i).1) (by omega) k
        · simp only [show ¬ (1 : Nat) = 0 by omega, if_false]
          exact ⟨rehuge_ok h hi k2 (.inl ⟨rfl, rfl⟩), by simp⟩
      · exact ⟨h, rfl⟩
    · rw [if_neg hc]
      split
      · rename_i c2
        obtain ⟨k1, kc, i0, i1, _⟩ := c2
        obtain ⟨u1, u2, u3⟩ := (h.each i hi).run k1
        have hj : ix.toNat < mnN (cN (gS S i).1) := by omega
        refine ⟨?_, by simp⟩
        unfold setD
        rcases hnx with rfl | rfl
        · rw [if_pos rfl]
          exact rerun_ok h hi k1 (clr_lt u1) (clr_lt u2) (clr_and (and_clr u3))
        · rw [if_neg (by omega)]
          exact rerun_ok h hi k1 (or_pow_lt u1 hj) (clr_lt u2) (bit_or_clr u3)
      · exact ⟨h, rfl⟩
  · rw [if_neg h0]; exact ⟨h, rfl⟩
theorem dropS_ok {S : List St} (h : SOk S) (ch ix cl mn : Int) : SOk (dropS S ch ix cl mn).2 ∧ (dropS S ch ix cl mn).2.length = S.length := by rw [← turn_drop h]; exact turn_ok h ch ix cl mn 2 0 (by omega)
theorem keepS_ok {S : List St} (h : SOk S) (ch ix cl mn : Int) : SOk (keepS S ch ix cl mn).2 ∧ (keepS S ch ix cl mn).2.length = S.length := by rw [← turn_keep h]; exact turn_ok h ch ix cl mn 2 1 (by omega)
theorem freeS_ok {S : List St} (h : SOk S) (ch ix cl mn : Int) : SOk (freeS S ch ix cl mn).2 ∧ (freeS S ch ix cl mn).2.length = S.length := by rw [← turn_free h]; exact turn_ok h ch ix cl mn 1 0 (by omega)
/-- both indexes, and the places that were told -/
theorem rowsS_lenD (S : List St) : (rowsS S).length ≤ S.length := rowsL_len _ _
structure Both (w0 w : World) (n3 n4 B By : Nat) (vx vy vt : Value) (S : List St) (T : List Plc) : Prop where
  x : Sess w0 w B vx S
  y : YAt w n3 By vy S
  t : PlKO w n4 vt T
  xB : B < n3
  xv : ∀ k, vx.ownBlock = some k → k < n3
  yB : By < n4
  yv : ∀ k, vy.ownBlock = some k → n3 ≤ k ∧ k < n4
  n0 : w0.heap.size ≤ n3
  n34 : n3 ≤ n4
  n4w : n4 ≤ w.heap.size
theorem Both.keep {w0 w w1 : World} {n3 n4 B By : Nat} {vx vy vt : Value} {S : List St} {T : List Plc} (h : Both w0 w n3 n4 B By vx vy vt S T) (hb : Below w.heap.size w w1) : Both w0 w1 n3 n4 B By vx vy vt S T :=
  ⟨h.x.keep hb, h.y.keep hb, h.t.keep hb, h.xB, h.xv, h.yB, h.yv, h.n0, h.n34, Nat.le_trans h.n4w hb.size⟩
theorem Both.afterX {w0 w w1 : World} {n3 n4 B By : Nat} {vx vy vt : Value} {S : List St} {T : List Plc} (h : Both w0 w n3 n4 B By vx vy vt S T) (hc : Chg (fun k => vx.ownBlock = some k) w w1) : YAt w1 n3 By vy S ∧ PlKO w1 n4 vt T :=
  ⟨h.y.chg hc (fun q => by have := h.xv _ q; have := h.y.lo; omega) (fun k q f => by have := h.xv _ f; have := (h.yv _ q).1; omega), h.t.chg hc (fun k q f => by have := h.xv _ f; have := (h.t.lt k q).1; have := h.n34; omega)⟩
theorem Both.afterY {w0 w w1 w2 : World} {n3 n4 B By : Nat} {vx vy vt : Value} {S S1 : List St} {T : List Plc} (h : Both w0 w n3 n4 B By vx vy vt S T) (hw : Lw w0) (hx : Sess w0 w1 B vx S1) (ht : PlKO w1 n4 vt T) (hy : YAt w2 n3 By vy S1) (h1 : w.heap.size ≤ w1.heap.size) (hc : Chg (fun k => vy.ownBlock = some k) w1 w2) : Both w0 w2 n3 n4 B By vx vy vt S1 T :=
  ⟨hx.other2 hw hc (fun k q => (h.yv k q).1) h.n0 h.xB h.xv, hy, ht.chg hc (fun k q f => by have := (h.yv _ f).2; have := (ht.lt k q).1; omega), h.xB, h.xv, h.yB, h.yv, h.n0, h.n34, Nat.le_trans h.n4w (Nat.le_trans h1 hc.size)⟩
theorem Both.afterT {w0 w w1 : World} {n3 n4 B By : Nat} {vx vy vt vt' : Value} {S : List St} {T T' : List Plc} (h : Both w0 w n3 n4 B By vx vy vt S T) (hw : Lw w0) (ht : PlKO w1 n4 vt' T') (hc : Chg (fun k => vt.ownBlock = some k) w w1) : Both w0 w1 n3 n4 B By vx vy vt' S T' :=
  ⟨h.x.other2 hw hc (fun k q => Nat.le_trans h.n34 (h.t.lt k q).1) h.n0 h.xB h.xv, h.y.chg hc (fun q => by have := (h.t.lt _ q).1; have := h.yB; omega) (fun k q f => by have := (h.t.lt _ f).1; have := (h.yv k q).2; omega), ht, h.xB, h.xv, h.yB, h.yv, h.n0, h.n34, Nat.le_trans h.n4w hc.size⟩
/-- an operation that lies in a box -/
structure OpAt (w : World) (D : Nat) (o : Iox) : Prop where
  blk : w.heap[D]? = some (.cells #[.int .u8 o.kind, .int .i64 o.size, .int .i64 o.lane, .int .u8 o.which, .bool o.raw, .int .i64 o.ch, .int .i64 o.ix, .int .i64 o.cl, .int .i64 o.mn, .bool o.fr] 64 (0, 0))
theorem OpAt.new (w : World) (o : Iox) : OpAt (w.alloc (.cells #[.int .u8 o.kind, .int .i64 o.size, .int .i64 o.lane, .int .u8 o.which, .bool o.raw, .int .i64 o.ch, .int .i64 o.ix, .int .i64 o.cl, .int .i64 o.mn, .bool o.fr] 64)) w.heap.size o := ⟨World.alloc_heap_new w _⟩
theorem OpAt.lt {w : World} {D : Nat} {o : Iox} (h : OpAt w D o) : D < w.heap.size := (Array.getElem?_eq_some_iff.1 h.blk).1
theorem OpAt.keep {w w1 : World} {D : Nat} {o : Iox} (h : OpAt w D o) (hb : Below w.heap.size w w1) : OpAt w1 D o := ⟨(hb.block D h.lt).trans h.blk⟩
theorem OpAt.chg {F : Nat → Prop} {w w1 : World} {D : Nat} {o : Iox} (h : OpAt w D o) (hc : Chg F w w1) (hn : ¬ F D) : OpAt w1 D o := ⟨(hc.block D h.lt hn).trans h.blk⟩
theorem OpAt.cells {w : World} {D : Nat} {o : Iox} (h : OpAt w D o) : w.cell? ⟨D, 0, none⟩ = some (.int .u8 o.kind) ∧ w.cell? ⟨D, 1, none⟩ = some (.int .i64 o.size) ∧ w.cell? ⟨D, 2, none⟩ = some (.int .i64 o.lane) ∧ w.cell? ⟨D, 3, none⟩ = some (.int .u8 o.which) ∧ w.cell? ⟨D, 4, none⟩ = some (.bool o.raw) ∧ w.cell? ⟨D, 5, none⟩ = some (.int .i64 o.ch) ∧ w.cell? ⟨D, 6, none⟩ = some (.int .i64 o.ix) ∧ w.cell? ⟨D, 7, none⟩ = some (.int .i64 o.cl) ∧ w.cell? ⟨D, 8, none⟩ = some (.int .i64 o.mn) ∧ w.cell? ⟨D, 9, none⟩ = some (.bool o.fr) :=
  ⟨(row_cell h.blk 0).1, (row_cell h.blk 1).1, (row_cell h.blk 2).1, (row_cell h.blk 3).1, (row_cell h.blk 4).1, (row_cell h.blk 5).1, (row_cell h.blk 6).1, (row_cell h.blk 7).1, (row_cell h.blk 8).1, (row_cell h.blk 9).1⟩
theorem IOPL.form {w : World} {v : Value} {l : List Iox} {n : Nat} (h : IOPL w v l) (hn : l.length = n) : ∃ A cap, v = .slice A n cap ∧
    ∀ w1 i, Below w.heap.size w w1 → i < n → ∃ g off, A = some ⟨g, off, none⟩ ∧ n ≤ cap ∧ g < w1.heap.size ∧ w1.cell? ⟨g, off + i * 10, none⟩ = some (.int .u8 (l.getD i default).kind) ∧ w1.cell? ⟨g, off + i * 10 + 1, none⟩ = some (.int .i64 (l.getD i default).size) ∧ w1.cell? ⟨g, off + i * 10 + 2, none⟩ = some (.int .i64 (l.getD i default).lane) ∧ w1.cell? ⟨g, off + i * 10 + 3, none⟩ = some (.int .u8 (l.getD i default).which) ∧ w1.cell? ⟨g, off + i * 10 + 4, none⟩ = some (.bool (l.getD i default).raw) ∧ w1.cell? ⟨g, off + i * 10 + 5, none⟩ = some (.int .i64 (l.getD i default).ch) ∧ w1.cell? ⟨g, off + i * 10 + 6, none⟩ = some (.int .i64 (l.getD i default).ix) ∧ w1.cell? ⟨g, off + i * 10 + 7, none⟩ = some (.int .i64 (l.getD i default).cl) ∧ w1.cell? ⟨g, off + i * 10 + 8, none⟩ = some (.int .i64 (l.getD i default).mn) ∧ w1.cell? ⟨g, off + i * 10 + 9, none⟩ = some (.bool (l.getD i default).fr) := by
  obtain ⟨A, cap, hv, h⟩ := EL.form h hn
  refine ⟨A, cap, hv, fun w1 i hb hi => ?_⟩
  obtain ⟨g, off, hA, h1, h2, h3, hc⟩ := h w1 i hb hi
  exact ⟨g, off, hA, h1, h3, hc 0 (by omega), hc 1 (by omega), hc 2 (by omega), hc 3 (by omega), hc 4 (by omega), hc 5 (by omega), hc 6 (by omega), hc 7 (by omega), hc 8 (by omega), hc 9 (by omega)⟩
/-- one more place is laid behind -/
theorem appPl {w : World} {base : Nat} {v : Value} {l : List Plc} (p : Plc) (h : PlKO w base v l) (hb : base ≤ w.heap.size) (hl : l.length ≤ 1000) :
    ∃ v' w', (Builtin.append_ #[60, 60] 60 #[v, .slice (some ⟨w.heap.size, 0, none⟩) 1 1]).run Tryd.prog (w.alloc (.cells #[.int .i64 (p.ch : Nat), .int .i64 (p.ix : Nat), .int .i64 p.cl, .int .i64 (p.mn : Nat), .bool p.fr] (62 : Nat))) = .ok v' w' ∧ PlKO w' base v' (l ++ [p]) ∧ Below base w w' ∧ Chg (fun k => v.ownBlock = some k) w w' := by
  obtain ⟨v', w', hrun, ho, hg, _, _⟩ := appE plT (h.alloc (.cells #[.int .i64 (p.ch : Nat), .int .i64 (p.ix : Nat), .int .i64 p.cl, .int .i64 (p.mn : Nat), .bool p.fr] (62 : Nat))) (ePl_new w p (62 : Nat)) (by rw [World.size_alloc]; omega) (by omega) (by simp)
  have hA : Below w.heap.size w (w.alloc (.cells #[.int .i64 (p.ch : Nat), .int .i64 (p.ix : Nat), .int .i64 p.cl, .int .i64 (p.mn : Nat), .bool p.fr] (62 : Nat))) := (Below.refl _ _).alloc (Nat.le_refl _) _
  exact ⟨v', w', hrun, ho, ((Below.refl base w).alloc hb _).trans (grown_below hg (by rw [World.size_alloc]; omega) (fun k hk => (h.lt k hk).1)), (Chg.of_below _ hA).trans (Chg.of_grown (S := fun k => v.ownBlock = some k) hg (fun k e => .inl e)) (fun k e => .inl e)⟩
end Go.Proofs.YtnjifmecaeagaaaDoor
