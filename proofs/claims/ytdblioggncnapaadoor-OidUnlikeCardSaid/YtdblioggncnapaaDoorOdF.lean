/-
  Package oid, mathematics: a word with another bit in its upper half.
-/
import Derived.Test.YtdblioggncnapaaDoorOdH
import Derived.Laws.BitsAllLaws
set_option linter.unusedVariables false
namespace Go.Proofs.YtdblioggncnapaaDoor
theorem wrap_pow8 (q : Nat) (h : q < 64) : IntKind.u64.wrap ((2 : Int) ^ q) = ((2 ^ q : Nat) : Int) := by
  have e : ((2 : Int) ^ q) = ((2 ^ q : Nat) : Int) := by simp
  have h2 : 2 ^ q < 18446744073709551616 := Nat.pow_lt_pow_right (n := 64) (by decide : 1 < 2) h
  rw [e, IntKind.wrap_u64]
  generalize 2 ^ q = Y at h2 ⊢
  omega
theorem flip_ne (x q M : Nat) (hM : M = 2 ^ 32) : (x ^^^ 2 ^ (32 + q)) / M ≠ x / M := fun e => by
  subst hM
  have h2 := congrArg (fun y : Nat => y.testBit q) e
  simp only [Nat.testBit_div_two_pow] at h2
  rw [Nat.add_comm q 32, Nat.testBit_xor, Nat.testBit_two_pow_self] at h2
  cases hq : x.testBit (32 + q) <;> rw [hq] at h2 <;> simp at h2
theorem flip8 (x b : Nat) (hx : x < 18446744073709551616) : bits BinOp.xor IntKind.u64 (x : Int) (IntKind.u64.wrap (2 ^ (32 + b % 32))) = ((x ^^^ 2 ^ (32 + b % 32) : Nat) : Int) ∧ x ^^^ 2 ^ (32 + b % 32) < 18446744073709551616 ∧ (x ^^^ 2 ^ (32 + b % 32)) / 4294967296 ≠ x / 4294967296 := by
  have hk : 32 + b % 32 < 64 := by omega
  refine ⟨?_, ?_, flip_ne x (b % 32) 4294967296 p32.symm⟩
  · rw [wrap_pow8 _ hk]
    refine u64_xor_nat x _ hx ?_
    have := Nat.pow_lt_pow_right (a := 2) (by omega) hk
    rw [p64] at this; exact this
  · have := Nat.pow_lt_pow_right (a := 2) (by omega) hk
    have h3 := Nat.xor_lt_two_pow (x := x) (y := 2 ^ (32 + b % 32)) (n := 64) (by rw [p64]; exact hx) this
    rw [p64] at h3; exact h3
end Go.Proofs.YtdblioggncnapaaDoor
