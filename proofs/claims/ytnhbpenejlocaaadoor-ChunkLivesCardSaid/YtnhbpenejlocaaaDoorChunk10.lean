/-
  What the document's answers for chunk answer: Room.
-/
import Derived.Test.YtnhbpenejlocaaaDoorChunk9
set_option linter.unusedVariables false
namespace Go.Proofs.YtnhbpenejlocaaaDoor
open Go.RowKit

def roomB (c b i : Nat) : Bool := !(decide ((i : Int) < mnyI c)) || !((List.range i).all b.testBit) || b.testBit i || decide (roomI c b = i)
theorem roomB_all : ∀ c : Nat, c < 3 → ∀ b : Nat, b < 256 → ∀ i : Nat, i < 8 → roomB c b i = true := by decide +kernel
theorem room_at (c : Nat) (hc : c < 3) (b : Nat) (hb : b < 256) (i : Nat) (hi : i < 8) (h0 : (i : Int) < mnyI (c : Nat)) (h1 : ∀ j : Nat, j < i → b.testBit j = true) (h2 : b.testBit i = false) : roomI (c : Nat) b = i := by
  have h := roomB_all c hc b hb i hi
  have h3 : (List.range i).all b.testBit = true := by rw [List.all_eq_true]; intro j hj; exact h1 j (List.mem_range.1 hj)
  unfold roomB at h
  rw [h3, h2, decide_eq_true h0] at h
  simpa using h
theorem room_end : ∀ c : Nat, c < 3 → ∀ b : Nat, b < 256 → (∀ j : Nat, j < 8 → (j : Int) < mnyI (c : Nat) → b.testBit j = true) → roomI (c : Nat) b = -1 := by decide +kernel
theorem mny_bd (c : Nat) (hc : c < 3) : 2 ≤ mnyI c ∧ mnyI c ≤ 8 := by
  have h : c = 0 ∨ c = 1 ∨ c = 2 := by omega
  rcases h with rfl | rfl | rfl <;> decide
set_option maxHeartbeats 2000000 in
theorem refRoom_run (c : Nat) (l m : Int) (b : Nat) (w : World) (hc : c < 3) (b1 : b < 256) :
    Calls Tryd.prog 40 #[.agg #[.int .i64 1, .int .i64 c, .int .i64 l, .int .i64 m, .int .u64 b]] w fun e w' => e = .returned (.int .i64 (roomI c b)) ∧ Below w.heap.size w w' := by
  have hM := Lib.hid (fun w => refMny_any c w)
  have hL := Lib.hid (fun i w (hi : i ≤ 7) => refLive_any 1 c l m b i w hi (by omega))
  obtain ⟨m0, m1⟩ := mny_bd c hc
  have hAt := Lib.hid (room_at c hc b b1)
  have hEnd := Lib.hid (room_end c hc b b1)
  go_enter Tryd.func40, Tryd.ntmps40
  go_wp2_with fail
  go_loopw [3] (fun k wr => ∃ i : Nat, (i : Int) ≤ mnyI c ∧ k = .int .i64 i ∧ C5 wr w.heap.size 1 c l m b ∧ Hid (∀ j : Nat, j < i → b.testBit j = true) ∧ Below w.heap.size w wr) (fun k _ => 9 - (intOf k).toNat)
  case atStart => exact ⟨0, by omega, rfl, C5.new w 1 c l m b 47, (fun j hj => by omega), (Below.refl _ _).alloc (Nat.le_refl _) _⟩
  case round =>
    obtain ⟨i, hi, rfl, h5, hT, hB⟩ := hrel
    have h5' := Lib.hid h5
    obtain ⟨c0, c1, c2, c3, c4⟩ := h5
    by_cases hlt : (i : Int) < mnyI c
    · cases hb : liveB b i
      · go_wp2_with fail
        refine (hM.out _).mono ?_
        rintro e w' ⟨rfl, rfl⟩
        go_wp2_with fail
        refine (hL.out i _ (by omega)).mono ?_
        rw [hb]
        rintro e w1 ⟨rfl, hbl⟩
        go_wp2_with fail
        go_ret
        exact ⟨ret_i (hAt.out i (by omega) hlt hT.out hb).symm, hB.trans (hbl.mono hB.size)⟩
      · go_wp2_with fail
        refine (hM.out _).mono ?_
        rintro e w' ⟨rfl, rfl⟩
        go_wp2_with fail
        refine (hL.out i _ (by omega)).mono ?_
        rw [hb]
        rintro e w1 ⟨rfl, hbl⟩
        go_wp2_with fail
        go_roundw
        case rel =>
          refine ⟨i + 1, by omega, by go_num, h5'.out.keep hbl, (fun j hj => ?_), hB.trans (hbl.mono hB.size)⟩
          by_cases e : j = i
          · subst e; exact hb
          · exact hT.out j (by omega)
        case measure => simp [intOf]; omega
    · go_wp2_with fail
      refine (hM.out _).mono ?_
      rintro e w' ⟨rfl, rfl⟩
      go_wp2_with fail
      go_ret
      exact ⟨ret_i (hEnd.out (fun j hj hm => hT.out j (by omega))).symm, hB⟩
set_option maxHeartbeats 400000 in
theorem refRoom_no (k c l m : Int) (b : Int) (w : World) (hk : ¬ k = 1) :
    Calls Tryd.prog 40 #[.agg #[.int .i64 k, .int .i64 c, .int .i64 l, .int .i64 m, .int .u64 b]] w fun e w' => e = .returned (.int .i64 (-1)) ∧ Below w.heap.size w w' := by
  go_enter Tryd.func40, Tryd.ntmps40
  go_wp2_with fail
  go_loopw [3] (fun k2 wr => k2 = .int .i64 0 ∧ wr.cell? ⟨w.heap.size, 0, none⟩ = some (.int .i64 k) ∧ Below w.heap.size w wr) (fun _ _ => 0)
  case atStart => exact ⟨rfl, by simp [go_sem], (Below.refl _ _).alloc (Nat.le_refl _) _⟩
  case round =>
    obtain ⟨rfl, h5, hB⟩ := hrel
    go_wp2_with fail
    go_ret
    exact ⟨rfl, hB⟩
end Go.Proofs.YtnhbpenejlocaaaDoor
