/-
  What the calls of package geo answer: contracts on the calls.
-/
import Derived.Test.YtjmilngndoiceaaRows
import Derived.Test.YtjmilngndoiceaaCommon
import Derived.WalkSpells
import Derived.WalkLawsBesides
import Derived.Deep.RegionHeld3
namespace Go.Proofs.Ytjmilngndoiceaa
open Go.RowKit

/-- a geometry that can be -/
def gOk (W L : Int) : Bool := decide (1 ≤ L ∧ L ≤ 64 ∧ W ≤ 65536 ∧ 43 + 73 * L ≤ W)
/-- how many chunks it has then -/
def gN (W L : Int) : Int := (W - (10 + 73 * L)) / 33
theorem gOk_t {W L : Int} (h : gOk W L = true) : 1 ≤ L ∧ L ≤ 64 ∧ W ≤ 65536 ∧ 43 + 73 * L ≤ W := of_decide_eq_true h
theorem gOk_f {W L : Int} (h : gOk W L = false) : ¬ (1 ≤ L ∧ L ≤ 64 ∧ W ≤ 65536 ∧ 43 + 73 * L ≤ W) := of_decide_eq_false h
theorem gN_bd {W L : Int} (h : gOk W L = true) : 1 ≤ gN W L ∧ gN W L ≤ 2000 ∧ 33 * gN W L ≤ W - (10 + 73 * L) ∧ W - (10 + 73 * L) ≤ 33 * gN W L + 32 := by
  have := gOk_t h
  unfold gN; omega

def C2 (w : World) (b : Nat) (x y : Value) : Prop := w.cell? ⟨b, 0, none⟩ = some x ∧ w.cell? ⟨b, 1, none⟩ = some y
theorem C2.lt {w : World} {b : Nat} {x y : Value} (h : C2 w b x y) : b < w.heap.size := World.block_lt_of_cell? w _ h.1
theorem C2.keep {W w1 : World} {b : Nat} {x y : Value} (h : C2 W b x y) (hb : Below W.heap.size W w1) : C2 w1 b x y :=
  ⟨by rw [(bcell hb).1 _ _ h.lt]; exact h.1, by rw [(bcell hb).1 _ _ h.lt]; exact h.2⟩
theorem C2.new (w : World) (x y : Value) (t : TypeId) : C2 (w.alloc (.cells #[x, y] t)) w.heap.size x y := by
  refine ⟨?_, ?_⟩ <;> simp [go_sem]
theorem C2.alloc {W : World} {b : Nat} {x y : Value} (h : C2 W b x y) (o : Obj) : C2 (W.alloc o) b x y :=
  h.keep ((Below.refl _ _).alloc (Nat.le_refl _) _)
theorem C2.drew {W : World} {b : Nat} {x y : Value} (h : C2 W b x y) : C2 W.drew b x y := h
def F2 (w : World) (b : Nat) : Prop := w.frozen? ⟨b, 0, none⟩ = false ∧ w.frozen? ⟨b, 1, none⟩ = false
theorem F2.keep {W w1 : World} {b : Nat} (h : F2 W b) (hl : b < W.heap.size) (hb : Below W.heap.size W w1) : F2 w1 b :=
  ⟨by rw [(bcell hb).2 _ _ hl]; exact h.1, by rw [(bcell hb).2 _ _ hl]; exact h.2⟩
theorem F2.drew {W : World} {b : Nat} (h : F2 W b) : F2 W.drew b := h
theorem F2.new (w : World) (x y : Value) (t : TypeId) : F2 (w.alloc (.cells #[x, y] t)) w.heap.size := by
  refine ⟨?_, ?_⟩ <;> simp [go_sem]
theorem F2.alloc {W : World} {b : Nat} (h : F2 W b) (hl : b < W.heap.size) (o : Obj) : F2 (W.alloc o) b :=
  h.keep hl ((Below.refl _ _).alloc (Nat.le_refl _) _)

theorem tdiv33_bd (x : Int) (h0 : -100000 ≤ x) (h1 : x ≤ 100000) : -100000 ≤ x.tdiv 33 ∧ x.tdiv 33 ≤ 100000 ∧ (33 ≤ x → 1 ≤ x.tdiv 33) ∧ (x < 33 → x.tdiv 33 < 1) := by
  rcases Int.le_total 0 x with h | h
  · rw [Int.tdiv_eq_ediv_of_nonneg h]; omega
  · obtain ⟨y, rfl⟩ : ∃ y, x = -y := ⟨-x, by omega⟩
    rw [Int.neg_tdiv, Int.tdiv_eq_ediv_of_nonneg (by omega)]; omega

set_option maxHeartbeats 400000 in
theorem lane_any (W L i : Int) (w : World) (h1 : 1 ≤ L) (h2 : L ≤ 64) (h3 : 0 ≤ i) (h4 : i ≤ 64) :
    Calls Try.prog 30 #[.agg #[.int .i64 W, .int .i64 L], .int .i64 i] w fun e w' => e = .returned (.int .i64 (10 + L + i * 72)) ∧ Below w.heap.size w w' := by
  go_enter Try.func30, Try.ntmps30
  go_wp2
  go_ret
  exact ⟨rfl, by go_grown⟩

set_option maxHeartbeats 400000 in
theorem table_any (W L : Int) (w : World) (h1 : 1 ≤ L) (h2 : L ≤ 64) :
    Calls Try.prog 28 #[.agg #[.int .i64 W, .int .i64 L]] w fun e w' => e = .returned (.int .i64 (10 + 73 * L)) ∧ Below w.heap.size w w' := by
  go_enter Try.func28, Try.ntmps28
  go_wp2_with fail
  refine (lane_any W L L _ h1 h2 (by omega) (by omega)).mono ?_
  rintro e w1 ⟨rfl, hb⟩
  go_wp2_with fail
  go_ret
  exact ⟨ret_i (by omega), ((Below.refl _ _).alloc (Nat.le_refl _) _).trans (hb.mono (by simp))⟩

set_option maxHeartbeats 400000 in
theorem room_any (W L : Int) (w : World) (h1 : 1 ≤ L) (h2 : L ≤ 64) (h3 : 1 ≤ W) (h4 : W ≤ 65536) :
    Calls Try.prog 24 #[.agg #[.int .i64 W, .int .i64 L]] w fun e w' => e = .returned (.int .i64 ((W - (10 + 73 * L)).tdiv 33)) ∧ Below w.heap.size w w' := by
  go_enter Try.func24, Try.ntmps24
  go_wp2
  go_region_held3 (fun w' => w'.cell? ⟨w.heap.size, 0, none⟩ = some (.int .i64 W) ∧ w'.cell? ⟨w.heap.size, 1, none⟩ = some (.int .i64 L) ∧ w.heap.size < w'.heap.size ∧ Below w.heap.size w w')
    (((try go_split_ands); refine ⟨?_, ?_, ?_, ?_⟩ <;> first
      | (rw [hb.cell (by assumption)]; assumption) | assumption | (have := hb.size; omega) | (exact Below.trans (by assumption) (hb.mono (Nat.le_of_lt (by assumption))))
      | (go_keep; done) | (go_grown; done)))
    ((go_at_call 28; refine (table_any W L _ h1 h2).mono ?_; rintro e w6 ⟨rfl, hb⟩))
  go_wp2
  go_ret
  go_split_ands
  refine ⟨ret_i ?_, by assumption⟩
  have hb := tdiv33_bd (W - (10 + 73 * L)) (by omega) (by omega)
  rw [IntWalk.i64_in (W - (10 + 73 * L)) ⟨by omega, by omega⟩, IntWalk.i64_in _ ⟨by omega, by omega⟩]

set_option maxHeartbeats 400000 in
theorem right_t (W L : Int) (w : World) (h : gOk W L = true) :
    Calls Try.prog 16 #[.agg #[.int .i64 W, .int .i64 L]] w fun e w' => e = .returned (.bool true) ∧ Below w.heap.size w w' := by
  obtain ⟨h1, h2, h3, h4⟩ := gOk_t h
  clear h
  have hd : 1 ≤ (W - (10 + 73 * L)).tdiv 33 := (tdiv33_bd (W - (10 + 73 * L)) (by omega) (by omega)).2.2.1 (by omega)
  go_enter Try.func16, Try.ntmps16
  go_wp2_with fail
  refine (room_any W L _ h1 h2 (by omega) h3).mono ?_
  rintro e w1 ⟨rfl, hb⟩
  go_wp2_with fail
  go_ret
  exact ⟨rfl, ((Below.refl _ _).alloc (Nat.le_refl _) _).trans (hb.mono (by simp))⟩

set_option maxHeartbeats 400000 in
theorem right_f (W L : Int) (w : World) (h : gOk W L = false) :
    Calls Try.prog 16 #[.agg #[.int .i64 W, .int .i64 L]] w fun e w' => e = .returned (.bool false) ∧ Below w.heap.size w w' := by
  have h1 := gOk_f h
  clear h
  by_cases a1 : L < 1
  · clear h1
    go_enter Try.func16, Try.ntmps16
    go_wp2
    go_ret
    exact ⟨rfl, by go_grown⟩
  by_cases a2 : 64 < L
  · clear h1
    go_enter Try.func16, Try.ntmps16
    go_wp2
    go_ret
    exact ⟨rfl, by go_grown⟩
  by_cases a3 : W < 1
  · clear h1
    go_enter Try.func16, Try.ntmps16
    go_wp2
    go_ret
    exact ⟨rfl, by go_grown⟩
  by_cases a4 : 65536 < W
  · clear h1
    go_enter Try.func16, Try.ntmps16
    go_wp2
    go_ret
    exact ⟨rfl, by go_grown⟩
  have hd : (W - (10 + 73 * L)).tdiv 33 < 1 := (tdiv33_bd (W - (10 + 73 * L)) (by omega) (by omega)).2.2.2 (by omega)
  clear h1
  go_enter Try.func16, Try.ntmps16
  go_wp2_with fail
  refine (room_any W L _ (by omega) (by omega) (by omega) (by omega)).mono ?_
  rintro e w1 ⟨rfl, hb⟩
  go_wp2_with fail
  go_ret
  exact ⟨ret_b (by simp; omega), ((Below.refl _ _).alloc (Nat.le_refl _) _).trans (hb.mono (by simp))⟩

end Go.Proofs.Ytjmilngndoiceaa
