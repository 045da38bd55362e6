/-
  What the document's answers for seal answer: xor, On.
-/
import Derived.Test.YtkmfncnfpneekaaUSeal1
import Derived.Test.YtkmfncnfpneekaaBits2
set_option linter.unusedVariables false
namespace Go.Proofs.Ytkmfncnfpneekaa
open Go.RowKit

theorem bit_div (a p i : Nat) (hp : p = 2 ^ i) : a / p % 2 = (if a.testBit i then 1 else 0) := by
  subst hp
  rw [Nat.testBit_eq_decide_div_mod_eq]
  by_cases h : a / 2 ^ i % 2 = 1
  · simp [h]
  · simp [h]; omega
/-- the power of two behind i doublings, the last one left out -/
def pow31 (i : Nat) : Nat := if i < 31 then 2 ^ i else 2147483648
theorem pow31_bd (i : Nat) : 1 ≤ pow31 i ∧ pow31 i ≤ 2147483648 := by
  unfold pow31
  split
  · rename_i h
    have := Nat.pow_le_pow_right (by omega : 2 > 0) (show i ≤ 31 by omega)
    have := Nat.one_le_two_pow (n := i)
    omega
  · omega
theorem pow31_at (i : Nat) (h : i < 32) : pow31 i = 2 ^ i := by
  unfold pow31
  by_cases h2 : i < 31
  · rw [if_pos h2]
  · obtain rfl : i = 31 := by omega
    rfl
theorem pow31_next (i : Nat) (h : i < 31) : 2 * pow31 i = pow31 (i + 1) := by
  rw [pow31_at i (by omega), pow31_at (i + 1) (by omega), Nat.pow_succ, Nat.mul_comm]
set_option maxHeartbeats 2000000 in
theorem refXor_any (a b : Nat) (w : World) (ha : a < 4294967296) (hb : b < 4294967296) :
    Calls Try.prog 45 #[.int .u32 a, .int .u32 b] w fun e w' => e = .returned (.int .u32 (a ^^^ b : Nat)) ∧ Below w.heap.size w w' := by
  have hx : a ^^^ b < 4294967296 := xor_lt32 ha hb
  go_enter Try.func45, Try.ntmps45
  go_wp2_with fail
  go_loopw [5, 6, 7] (fun n p k wr => ∃ i : Nat, i ≤ 32 ∧ k = .int .i64 i ∧ n = .int .u32 ((a ^^^ b) % 2 ^ i : Nat) ∧ p = .int .u32 (pow31 i : Nat) ∧ Below w.heap.size w wr) (fun _ _ k _ => 33 - (intOf k).toNat)
  case atStart => exact ⟨0, by omega, rfl, by simp [Nat.mod_one], rfl, Below.refl _ _⟩
  case round =>
    obtain ⟨i, hi, rfl, rfl, rfl, hB⟩ := hrel
    by_cases hlt : i < 32
    · have hstep := mod_step (a ^^^ b) i
      have hlast : (a ^^^ b) % 2 ^ (i + 1) ≤ a ^^^ b := Nat.mod_le _ _
      have hpa := pow31_at i hlt
      obtain ⟨p1, p2⟩ := pow31_bd i
      obtain ⟨_, p4⟩ := pow31_bd (i + 1)
      have da := bit_div a (pow31 i) i hpa
      have db := bit_div b (pow31 i) i hpa
      have hn : 31 ≤ i → pow31 (i + 1) = pow31 i := fun h => by unfold pow31; rw [if_neg (by omega), if_neg (by omega)]
      have hn2 : i < 31 → 2 * pow31 i = pow31 (i + 1) := fun h => pow31_next i h
      rw [Nat.testBit_xor] at hstep
      have hq : ¬ pow31 i = 0 := by omega
      have hlt' : (i : Int) < 32 := by omega
      have T : (((a : Int) / (pow31 i : Nat)) % 2 == ((b : Int) / (pow31 i : Nat)) % 2) = !(a.testBit i ^^ b.testBit i) := by
        rw [show (a : Int) / (pow31 i : Nat) % 2 = ((a / pow31 i % 2 : Nat) : Int) by omega, show (b : Int) / (pow31 i : Nat) % 2 = ((b / pow31 i % 2 : Nat) : Int) by omega, da, db]
        cases a.testBit i <;> cases b.testBit i <;> rfl
      clear da db
      generalize hG2 : (a ^^^ b) % 2 ^ (i + 1) = n2 at *
      generalize (a ^^^ b) % 2 ^ i = n at *
      rw [← hpa] at hstep
      clear hpa
      generalize hQ2 : pow31 (i + 1) = q2 at *
      generalize pow31 i = q at *
      replace hG2 := Lib.hid hG2
      replace hQ2 := Lib.hid hQ2
      cases hd : (a.testBit i ^^ b.testBit i)
      · rw [hd] at T hstep
        simp only [Bool.not_false, Bool.false_eq_true, if_false, Nat.add_zero] at T hstep
        subst hstep
        by_cases h31 : i < 31
        · have h31' : (i : Int) < 31 := by omega
          have hq2 := hn2 h31
          clear hn hn2
          go_wp2_with fail
          go_region
          all_goals (try go_wp2_with fail)
          go_roundw
          case rel => exact ⟨i + 1, by omega, by go_num, by rw [hG2.out], by rw [hQ2.out, ← hq2]; go_num, hB.drew⟩
          case measure => simp [intOf]; omega
        · have h31' : ¬ (i : Int) < 31 := by omega
          have hq2 := hn (by omega)
          clear hn hn2
          go_wp2_with fail
          go_region
          all_goals (try go_wp2_with fail)
          go_roundw
          case rel => exact ⟨i + 1, by omega, by go_num, by rw [hG2.out], by rw [hQ2.out, hq2], hB.drew⟩
          case measure => simp [intOf]; omega
      · rw [hd] at T hstep
        simp only [Bool.not_true, if_true] at T hstep
        by_cases h31 : i < 31
        · have h31' : (i : Int) < 31 := by omega
          have hq2 := hn2 h31
          clear hn hn2
          go_wp2_with fail
          go_region
          all_goals (try go_wp2_with fail)
          go_roundw
          case rel => exact ⟨i + 1, by omega, by go_num, by rw [hG2.out, hstep]; go_num, by rw [hQ2.out, ← hq2]; go_num, hB.drew⟩
          case measure => simp [intOf]; omega
        · have h31' : ¬ (i : Int) < 31 := by omega
          have hq2 := hn (by omega)
          clear hn hn2
          go_wp2_with fail
          go_region
          all_goals (try go_wp2_with fail)
          go_roundw
          case rel => exact ⟨i + 1, by omega, by go_num, by rw [hG2.out, hstep]; go_num, by rw [hQ2.out, hq2], hB.drew⟩
          case measure => simp [intOf]; omega
    · obtain rfl : i = 32 := by omega
      rw [Nat.mod_eq_of_lt (show a ^^^ b < 2 ^ 32 from hx)]
      go_wp2_with fail
      go_ret
      exact ⟨rfl, hB⟩

set_option maxHeartbeats 2000000 in
theorem refOn_any (r x : Nat) (w : World) (hr : r < 4294967296) (hx : x < 18446744073709551616) :
    Calls Try.prog 41 #[.int .u32 r, .int .u64 x] w fun e w' => e = .returned (.int .u32 (turnN 64 r x : Nat)) ∧ Below w.heap.size w w' := by
  go_enter Try.func41, Try.ntmps41
  go_wp2_with fail
  go_loopw [0, 1, 5] (fun a b k wr => ∃ i r1 x1 : Nat, i ≤ 64 ∧ k = .int .i64 i ∧ a = .int .u32 r1 ∧ b = .int .u64 x1 ∧ r1 < 4294967296 ∧ x1 < 18446744073709551616 ∧ Hid (turnN (64 - i) r1 x1 = turnN 64 r x) ∧ Below w.heap.size w wr) (fun _ _ k _ => 65 - (intOf k).toNat)
  case atStart => exact ⟨0, r, x, by omega, rfl, rfl, rfl, hr, hx, rfl, Below.refl _ _⟩
  case round =>
    obtain ⟨i, r1, x1, hi, rfl, rfl, rfl, hr1, hx1, hT, hB⟩ := hrel
    by_cases hlt : i < 64
    · have hlt' : (i : Int) < 64 := by omega
      have hl := stepN_lt r1 x1 hr1
      have hT2 : turnN (64 - (i + 1)) (stepN r1 x1) (x1 / 2) = turnN 64 r x := by
        rw [← hT.out, show 64 - i = (64 - (i + 1)) + 1 by omega]
        rfl
      replace hT2 := Lib.hid hT2
      clear hT
      have hodd : (r1 ^^^ x1) % 2 = (if r1 % 2 = x1 % 2 then 0 else 1) := by
        rw [show (r1 ^^^ x1) % 2 = (r1 % 2 ^^^ x1 % 2) from Nat.xor_mod_two_pow (n := 1)]
        have h1 : r1 % 2 = 0 ∨ r1 % 2 = 1 := by omega
        have h2 : x1 % 2 = 0 ∨ x1 % 2 = 1 := by omega
        rcases h1 with h1 | h1 <;> rcases h2 with h2 | h2 <;> rw [h1, h2] <;> decide
      by_cases h : r1 % 2 = x1 % 2
      · have hs : stepN r1 x1 = r1 / 2 := by unfold stepN; rw [hodd, if_pos h]; rfl
        rw [hs] at hT2 hl
        have T : ((r1 : Int) % 2 == (x1 : Int) % 2) = true := by rw [beq_iff_eq]; omega
        clear hodd hs
        go_wp2_with fail
        go_roundw
        case rel => exact ⟨i + 1, r1 / 2, x1 / 2, by omega, by go_num, by go_num, by go_num, hl, by omega, hT2, hB⟩
        case measure => simp [intOf]; omega
      · have hs : stepN r1 x1 = (r1 / 2) ^^^ 3988292384 := by unfold stepN; rw [hodd, if_neg h]; rfl
        rw [hs] at hT2 hl
        have T : ((r1 : Int) % 2 == (x1 : Int) % 2) = false := by rw [beq_eq_false_iff_ne]; omega
        have hX := Lib.hid (fun w => show Calls Try.prog 45 #[.int .u32 ((r1 : Int) / 2), .int .u32 3988292384] w fun e w' => e = .returned (.int .u32 ((r1 / 2) ^^^ 3988292384 : Nat)) ∧ Below w.heap.size w w' from by
          rw [show (r1 : Int) / 2 = ((r1 / 2 : Nat) : Int) by omega]
          exact refXor_any (r1 / 2) 3988292384 w (by omega) (by omega))
        clear hodd hs h
        generalize (r1 / 2) ^^^ 3988292384 = r2 at *
        go_wp2_with fail
        refine (hX.out _).mono ?_
        rintro e w2 ⟨rfl, hb2⟩
        go_wp2_with fail
        go_roundw
        case rel => exact ⟨i + 1, r2, x1 / 2, by omega, by go_num, rfl, by go_num, hl, by omega, hT2, hB.trans (hb2.mono hB.size)⟩
        case measure => simp [intOf]; omega
    · obtain rfl : i = 64 := by omega
      have hT' : r1 = turnN 64 r x := hT.out
      replace hT' := Lib.hid hT'
      clear hT
      go_wp2_with fail
      go_ret
      exact ⟨by rw [← hT'.out]; rfl, hB⟩
end Go.Proofs.Ytkmfncnfpneekaa
