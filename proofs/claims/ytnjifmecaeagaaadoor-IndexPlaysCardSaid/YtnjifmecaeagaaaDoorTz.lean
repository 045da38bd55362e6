/-
  math/bits.TrailingZeros64 at a word that isn't 0, where its table lies as the library's text lays it.
-/
import Derived.Test.YtnjifmecaeagaaaDoorOnes
import Derived.Test.YtnjifmecaeagaaaDoorField
set_option linter.unusedVariables false
namespace Go.Proofs.YtnjifmecaeagaaaDoor
open Go.RowKit

def Deb (w : World) : Prop := ∀ i, i < 64 → w.cell? ⟨6, i, none⟩ = some (.int .u8 (debTab.getD i 0))
theorem Deb.keep {W w1 : World} {n : Nat} (h : Deb W) (hb : Below n W w1) (hn : 6 < n) : Deb w1 := fun i hi => by
  rw [hb.cell (p := ⟨6, i, none⟩) hn]; exact h i hi

theorem tz_idx (x a : Nat) (hx : x < 18446744073709551616) (hx0 : x ≠ 0) (hlow : x &&& (2 ^ 64 - x) = a) :
    IntKind.u64.wrap (bits BinOp.and IntKind.u64 (x : Int) (IntKind.u64.wrap (-(x : Int))) * 285870213051353865) / 288230376151711744 = ((a * 285870213051353865 % 18446744073709551616 / 288230376151711744 : Nat) : Int) := by
  have e1 : IntKind.u64.wrap (-(x : Int)) = ((2 ^ 64 - x : Nat) : Int) := by rw [IntKind.wrap_u64]; omega
  rw [e1, u64_and_nat x _ hx (by omega), hlow, IntKind.wrap_u64]
  omega

set_option maxHeartbeats 1000000 in
theorem tz_walk (x k idx : Nat) (w : World) (hx0 : ((x : Int) == 0) = false)
    (key : IntKind.u64.wrap (bits BinOp.and IntKind.u64 (x : Int) (IntKind.u64.wrap (-(x : Int))) * 285870213051353865) / 288230376151711744 = (idx : Int))
    (hi : idx < 64) (hk : k < 64) (hcell : w.cell? ⟨6, idx, none⟩ = some (.int .u8 k)) :
    Calls Tryd.prog 109 #[.int .u64 x] w fun e w' => e = .returned (.int .i64 k) ∧ w = w' := by
  go_enter Tryd.func109, Tryd.ntmps109
  go_wp2_with (simp only [key])
  go_ret
  exact ⟨rfl, rfl⟩

theorem tz_any (t m : Nat) (w : World) (h : 2 ^ t * (2 * m + 1) < 2 ^ 64) (hd : Deb w) :
    Calls Tryd.prog 109 #[.int .u64 (((2 ^ t * (2 * m + 1) : Nat) : Int))] w fun e w' => e = .returned (.int .i64 t) ∧ w = w' := by
  have ht := tz_lt t m h
  have hp := Nat.pow_pos (n := t) (a := 2) (by omega)
  have h0 : 0 < 2 ^ t * (2 * m + 1) := Nat.mul_pos hp (by omega)
  have hlt : 2 ^ t * 285870213051353865 % 18446744073709551616 / 288230376151711744 < 64 := Nat.div_lt_of_lt_mul (Nat.lt_of_lt_of_le (Nat.mod_lt _ (by decide)) (by decide))
  have hc := hd _ hlt
  rw [show debTab.getD (2 ^ t * 285870213051353865 % 18446744073709551616 / 288230376151711744) 0 = t from deb_all ⟨t, ht⟩] at hc
  have hna := neg_and t m h
  generalize 2 ^ t * (2 * m + 1) = x at *
  exact tz_walk x t _ w (by simp; omega) (tz_idx x (2 ^ t) (by omega) (by omega) hna) hlt ht hc
end Go.Proofs.YtnjifmecaeagaaaDoor
