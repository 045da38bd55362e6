/-
  Package oid, mathematics: headers.
-/
import Derived.Test.YtdblioggncnapaaDoorBits
set_option linter.unusedVariables false
set_option linter.unusedSimpArgs false
namespace Go.Proofs.YtdblioggncnapaaDoor
theorem p16 : (2 : Nat) ^ 16 = 65536 := by decide
theorem p32 : (2 : Nat) ^ 32 = 4294967296 := by decide
theorem p48 : (2 : Nat) ^ 48 = 281474976710656 := by decide
theorem p64 : (2 : Nat) ^ 64 = 18446744073709551616 := by decide
/-- a header's first word -/
def hdW (t s : Nat) : Nat := t + 65536 * s + 18038886832455811072
theorem put1 {t : Nat} (h : t < 65536) : putN 0 0 16 t = t := by
  unfold putN
  rw [Nat.zero_add, p16, Nat.pow_zero]; omega
theorem put2 {t s : Nat} (h : t < 65536) (hs : s < 65536) : putN t 16 16 s = t + 65536 * s := by
  unfold putN
  rw [show (16 + 16 : Nat) = 32 from rfl, p16, p32, Nat.mod_eq_of_lt h, Nat.mod_eq_of_lt hs, Nat.div_eq_of_lt (show t < 4294967296 by omega), Nat.zero_mul]; omega
theorem put3 {x : Nat} (h : x < 4294967296) : putN x 48 16 64087 = x + 18038886832455811072 := by
  unfold putN
  rw [show (48 + 16 : Nat) = 64 from rfl, p16, p48, p64, Nat.mod_eq_of_lt (show x < 281474976710656 by omega), Nat.div_eq_of_lt (show x < 18446744073709551616 by omega), Nat.zero_mul]
theorem hdW_lt {t s : Nat} (h : t < 65536) (hs : s < 65536) : hdW t s < 18446744073709551616 := by unfold hdW; omega
theorem get1 (x : Nat) : getN x 0 16 = x % 65536 := by
  unfold getN; rw [p16, Nat.pow_zero, Nat.div_one]
theorem get2 (x : Nat) : getN x 16 16 = x / 65536 % 65536 := by
  unfold getN; rw [p16]
theorem hdW_back {t s : Nat} (h : t < 65536) (hs : s < 65536) : hdW t s % 65536 = t ∧ hdW t s / 65536 % 65536 = s := by unfold hdW; omega
theorem hdW_is (x : Nat) : hdW (x % 65536) (x / 65536 % 65536) = x ↔ x / 4294967296 = 4200005632 := by unfold hdW; omega
/-- can a header be -/
def hdB (t s n : Int) : Bool := decide (1 ≤ t ∧ t ≤ 65535 ∧ 0 ≤ s ∧ s ≤ 4096 ∧ ¬ n = 0)
end Go.Proofs.YtdblioggncnapaaDoor
