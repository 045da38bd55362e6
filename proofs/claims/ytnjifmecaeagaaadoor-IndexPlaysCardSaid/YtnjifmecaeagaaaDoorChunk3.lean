/-
  What the calls of package chunk answer: Encode, Empty, Room, Bit.
-/
import Derived.Test.YtnjifmecaeagaaaDoorChunk2
import Derived.Test.YtnjifmecaeagaaaDoorFieldF
set_option linter.unusedVariables false
namespace Go.Proofs.YtnjifmecaeagaaaDoor
open Go.RowKit

/-- what the program laid lies where it laid it -/
def Lw (w : World) : Prop := Deb w ∧ 6 < w.heap.size ∧ Tab w ∧ 5 < w.heap.size ∧ Pl w
theorem Lw.keep {w w1 : World} (h : Lw w) (hb : Below w.heap.size w w1) : Lw w1 :=
  ⟨h.1.keep hb h.2.1, Nat.lt_of_lt_of_le h.2.1 hb.size, tab_keep h.2.2.1 h.2.2.2.1 hb, Nat.lt_of_lt_of_le h.2.2.2.1 hb.size, h.2.2.2.2.keep hb⟩
theorem Lw.alloc {w : World} (h : Lw w) (o : Obj) : Lw (w.alloc o) := h.keep ((Below.refl _ _).alloc (Nat.le_refl _) _)
theorem Lw.drew {w : World} (h : Lw w) : Lw w.drew := h

set_option maxHeartbeats 1000000 in
theorem enc_yes (k c l m b : Int) (w : World) (hw : Lw w) (b0 : 0 ≤ b) (h : rightB k c l m b = true) :
    Calls Tryd.prog 83 #[.agg #[.int .i64 k, .int .i64 c, .int .i64 l, .int .i64 m, .int .u64 b]] w fun e w' => e = .returned (.tuple #[.int .u64 (wordI k c l m b), .int .i64 0]) ∧ Below w.heap.size w w' := by
  have hr := rightB_t h
  have hbd : 0 ≤ k ∧ k < 8 ∧ 0 ≤ c ∧ c < 4 ∧ 0 ≤ l ∧ l < 64 ∧ 0 ≤ m ∧ m < 8192 ∧ b < 256 := by unfold RightP at hr; omega
  obtain ⟨k0, k1, c0, c1, l0, l1, m0, m1, b1⟩ := hbd
  have H := Lib.hid h
  clear h hr
  have hw1 := Lib.hid (hw.alloc (.cells #[.int .i64 k, .int .i64 c, .int .i64 l, .int .i64 m, .int .u64 b] 29))
  go_enter Tryd.func83, Tryd.ntmps83
  go_wp2_with fail
  refine (right_any k c l m b _ hw1.out.2.2.1 hw1.out.2.2.2.1 b0).mono ?_
  rw [H.out]
  rintro e w1 ⟨rfl, hb1⟩
  have kb := (C5.new w k c l m b 29).keep hb1
  have hw2 := Lib.hid (hw1.out.keep hb1)
  have hB1 : Below w.heap.size w w1 := ((Below.refl _ w).alloc (Nat.le_refl _) _).trans (hb1.mono (by simp))
  obtain ⟨v0, v1, v2, v3, v4⟩ := kb
  go_wp2_with fail
  refine (word_any k c l m b _ hw2.out.2.2.2.2 k0 k1 c0 c1 l0 l1 m0 m1 b0 b1).mono ?_
  rintro e w2 ⟨rfl, hb2⟩
  obtain ⟨hB2, _⟩ := belowStep hB1 hB1.size hb2
  go_wp2_with fail
  go_ret2
  exact ⟨rfl, hB2⟩
set_option maxHeartbeats 1000000 in
theorem enc_no (k c l m b : Int) (w : World) (hw : Lw w) (b0 : 0 ≤ b) (h : rightB k c l m b = false) :
    Calls Tryd.prog 83 #[.agg #[.int .i64 k, .int .i64 c, .int .i64 l, .int .i64 m, .int .u64 b]] w fun e w' => e = .returned (.tuple #[.int .u64 0, .int .i64 1]) ∧ Below w.heap.size w w' := by
  have H := Lib.hid h
  clear h
  have hw1 := Lib.hid (hw.alloc (.cells #[.int .i64 k, .int .i64 c, .int .i64 l, .int .i64 m, .int .u64 b] 29))
  go_enter Tryd.func83, Tryd.ntmps83
  go_wp2_with fail
  refine (right_any k c l m b _ hw1.out.2.2.1 hw1.out.2.2.2.1 b0).mono ?_
  rw [H.out]
  rintro e w1 ⟨rfl, hb1⟩
  have hB1 : Below w.heap.size w w1 := ((Below.refl _ w).alloc (Nat.le_refl _) _).trans (hb1.mono (by simp))
  go_wp2_with fail
  go_ret2
  exact ⟨rfl, hB1⟩

set_option maxHeartbeats 400000 in
theorem empty_any (k c l m b : Int) (w : World) :
    Calls Tryd.prog 30 #[.agg #[.int .i64 k, .int .i64 c, .int .i64 l, .int .i64 m, .int .u64 b]] w fun e w' => e = .returned (.bool (decide (k = 1 ∧ b = 0))) ∧ Below w.heap.size w w' := by
  by_cases hk : k = 1
  · by_cases hb : b = 0
    · subst hk hb
      go_enter Tryd.func30, Tryd.ntmps30
      go_wp2_with fail
      go_ret
      exact ⟨ret_b (by simp), (Below.refl _ _).alloc (Nat.le_refl _) _⟩
    · subst hk
      go_enter Tryd.func30, Tryd.ntmps30
      go_wp2_with fail
      go_ret
      exact ⟨ret_b (by simp [hb]), (Below.refl _ _).alloc (Nat.le_refl _) _⟩
  · go_enter Tryd.func30, Tryd.ntmps30
    go_wp2_with fail
    go_ret
    exact ⟨ret_b (by simp [hk]), (Below.refl _ _).alloc (Nat.le_refl _) _⟩

set_option maxHeartbeats 400000 in
theorem bit_no (i : Int) (w : World) (h : i < 0) :
    Calls Tryd.prog 33 #[.int .i64 i] w fun e w' => e = .returned (.int .u64 0) ∧ Below w.heap.size w w' := by
  go_enter Tryd.func33, Tryd.ntmps33
  go_wp2_with fail
  go_ret
  exact ⟨rfl, Below.refl _ _⟩
set_option maxHeartbeats 400000 in
theorem bit_big (i : Int) (w : World) (hw : Lw w) (h : 8 ≤ i) :
    Calls Tryd.prog 33 #[.int .i64 i] w fun e w' => e = .returned (.int .u64 0) ∧ Below w.heap.size w w' := by
  obtain ⟨_, _, _, _, p0, p1, p2, p3, ⟨p40, p41⟩⟩ := hw
  go_enter Tryd.func33, Tryd.ntmps33
  go_wp2_with fail
  go_ret
  exact ⟨rfl, Below.refl _ _⟩
end Go.Proofs.YtnjifmecaeagaaaDoor
