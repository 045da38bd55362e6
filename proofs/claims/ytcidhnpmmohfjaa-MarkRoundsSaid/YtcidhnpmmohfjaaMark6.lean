/-
  The laws of package mark: the walks (4).
-/
import Derived.Test.YtcidhnpmmohfjaaMark4
namespace Go.Proofs.Ytcidhnpmmohfjaa
open Go.RowKit


def F3 (w : World) (b : Nat) : Prop := w.frozen? ⟨b, 0, none⟩ = false ∧ w.frozen? ⟨b, 1, none⟩ = false ∧ w.frozen? ⟨b, 2, none⟩ = false
theorem F3.keep {W w1 : World} {b : Nat} (h : F3 W b) (hl : b < W.heap.size) (hb : Below W.heap.size W w1) : F3 w1 b :=
  ⟨by rw [(bcell hb).2 _ _ hl]; exact h.1, by rw [(bcell hb).2 _ _ hl]; exact h.2.1, by rw [(bcell hb).2 _ _ hl]; exact h.2.2⟩
theorem F3.new (w : World) (x y z : Value) (t : TypeId) : F3 (w.alloc (.cells #[x, y, z] t)) w.heap.size := by
  refine ⟨?_, ?_, ?_⟩ <;> simp [go_sem]
theorem F3.setCell {W : World} {b : Nat} (h : F3 W b) (a : Addr) (v : Value) : F3 (W.setCell a v) b :=
  ⟨by rw [World.frozen?_setCell]; exact h.1, by rw [World.frozen?_setCell]; exact h.2.1, by rw [World.frozen?_setCell]; exact h.2.2⟩
theorem C3.stored {W : World} {b : Nat} {x y z : Value} (h : C3 W b x y z) (x' y' z' : Value) :
    C3 (((W.setCell ⟨b, 0, none⟩ x').setCell ⟨b, 1, none⟩ y').setCell ⟨b, 2, none⟩ z') b x' y' z' := by
  obtain ⟨h0, h1, h2⟩ := h
  refine ⟨?_, ?_, ?_⟩ <;> simp [go_sem, h0, h1, h2]

theorem begin_end_gen (g : Int) (h0 : 0 ≤ g) (h1 : g ≤ 281474976710655) : 0 ≤ nextG g ∧ nextG g ≤ 281474976710655 := by
  unfold nextG; split <;> omega

set_option maxHeartbeats 1000000 in
theorem markRounds_big (g m : Int) (w : World) (h : 281474976710655 < g) :
    Calls Try.prog 7 #[.int .u64 g, .int .u8 m] w fun e w' => e = .returned (.bool true) ∧ Below w.heap.size w w' := by
  go_enter Try.func7, Try.ntmps7
  go_wp2_with fail
  refine (awake_any _).mono ?_
  rintro e w1 ⟨rfl, hb1⟩
  go_wp2_with fail
  go_ret
  exact ⟨rfl, hb1⟩

set_option maxHeartbeats 1000000 in
theorem markRounds_any (g m : Int) (w : World) (h0 : 0 ≤ g) (h : g ≤ 281474976710655) (hm0 : 0 ≤ m) (hm1 : m ≤ 255) :
    Calls Try.prog 7 #[.int .u64 g, .int .u8 m] w fun e w' => e = .returned (.bool true) ∧ Below w.heap.size w w' := by
  go_enter Try.func7, Try.ntmps7
  go_wp2_with fail
  refine (awake_any _).mono ?_
  rintro e w1 ⟨rfl, hb1⟩
  go_wp2_with fail
  have hz1 := hb1.size
  go_loopw [8] (fun i wr => ∃ k : Nat, (k : Int) ≤ m % 101 ∧ i = .int .i64 k ∧ C3 wr w1.heap.size (.int .i64 0) (.int .i64 0) (.int .u64 ((g + k) % 281474976710656)) ∧ F3 wr w1.heap.size ∧ Below w.heap.size w wr) (fun i _ => 101 - (intOf i).toNat)
  case atStart => exact ⟨0, by omega, rfl, by
    rw [show (g + ((0 : Nat) : Int)) % 281474976710656 = g by omega]; exact C3.new _ _ _ _ _, F3.new _ _ _ _ _, by go_grown⟩
  case round =>
    obtain ⟨k, hk, rfl, hC, hF, hB⟩ := hrel
    obtain ⟨p0, p1, p2⟩ := id hC
    have hl := hC.lt
    by_cases hlt : (k : Int) < m % 101
    · have hz : w.heap.size ≤ wr.heap.size := by have := hB.size; omega
      go_wp2_with fail
      refine (begin_any 0 0 ((g + k) % 281474976710656) _ (by omega) (by omega)).mono ?_
      rintro e w2 ⟨rfl, hb2⟩
      obtain ⟨hB2, hz2⟩ := belowStep hB hz hb2
      go_wp2_with fail
      refine (end_any 1 0 (nextG ((g + k) % 281474976710656)) _).mono ?_
      rintro e w3 ⟨rfl, hb3⟩
      obtain ⟨hB3, hz3⟩ := belowStep hB2 hz2 hb3
      have hC3 := (hC.keep hb2).keep hb3
      clear p0 p1 p2
      obtain ⟨p0, p1, p2⟩ := id hC3
      have hl2 := (hC.keep hb2).lt
      have hF3 := (hF.keep hl hb2).keep hl2 hb3
      obtain ⟨q0, q1, q2⟩ := id hF3
      go_wp2_with fail
      go_roundw
      case rel =>
        refine ⟨k + 1, by omega, by go_num, ?_, ((hF3.setCell _ _).setCell _ _).setCell _ _, by go_grown⟩
        have e : (g + ((k + 1 : Nat) : Int)) % 281474976710656 = nextG ((g + k) % 281474976710656) := by
          unfold nextG; split <;> omega
        rw [e]
        exact hC3.stored _ _ _
      case measure => simp [intOf]; omega
    · have hke : (k : Int) = m % 101 := by omega
      go_wp2_with fail
      go_ret
      exact ⟨ret_b rfl, hB⟩
end Go.Proofs.Ytcidhnpmmohfjaa
