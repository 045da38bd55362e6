/-
  What the calls of package field answer, where the bits fit: contracts on the calls.
-/
import Derived.Test.YtnjifmecaeagaaaDoorRows
import Derived.Test.YtnjifmecaeagaaaDoorBits
import Derived.Test.YtnjifmecaeagaaaDoorCommon
import Derived.WalkSpells
import Derived.WalkLawsBesides
namespace Go.Proofs.YtnjifmecaeagaaaDoor
open Go.RowKit

def lowI (x m : Int) : Int := x % 2 ^ m.toNat
def getI (w a m : Int) : Int := ((getN w.toNat a.toNat m.toNat : Nat) : Int)
def putI (w a m v : Int) : Int := ((putN w.toNat a.toNat m.toNat v.toNat : Nat) : Int)

set_option maxHeartbeats 400000 in
theorem fits_yes (a m : Int) (w : World) (h0 : 0 ≤ a) (h1 : 1 ≤ m) (h2 : m ≤ 64) (h3 : a ≤ 64 - m) :
    Calls Tryd.prog 105 #[.int .i64 a, .int .i64 m] w fun e w' => e = .returned (.bool true) ∧ w = w' := by
  go_enter Tryd.func105, Tryd.ntmps105
  go_wp2
  go_ret
  exact ⟨rfl, rfl⟩

set_option maxHeartbeats 400000 in
theorem lowest_any (x m : Int) (w : World) (h0 : 0 ≤ x) (h1 : x < 18446744073709551616) (h2 : 0 ≤ m) (h : m ≤ 64) :
    Calls Tryd.prog 102 #[.int .u64 x, .int .i64 m] w fun e w' => e = .returned (.int .u64 (lowI x m)) ∧ w = w' := by
  by_cases h64 : m = 64
  · subst h64
    go_enter Tryd.func102, Tryd.ntmps102
    go_wp2
    go_ret
    refine ⟨?_, rfl⟩
    show Ending.returned (.int .u64 x) = _
    unfold lowI
    rw [show ((64 : Int).toNat) = 64 from rfl, show ((2 : Int) ^ 64) = 18446744073709551616 from by decide, Int.emod_eq_of_lt h0 h1]
  · have hlt : m < 64 := by omega
    go_enter Tryd.func102, Tryd.ntmps102
    go_wp2
    go_ret
    refine ⟨?_, rfl⟩
    rw [low_walk x m.toNat h0 h1 (by omega)]
    rfl

theorem lowI_bd (x m : Int) (h0 : 0 ≤ x) (h1 : x < 18446744073709551616) : 0 ≤ lowI x m ∧ lowI x m < 18446744073709551616 := by
  unfold lowI
  have hp : (0 : Int) < 2 ^ m.toNat := Int.pow_pos (by decide)
  have h2 := Int.emod_nonneg x (Int.ne_of_gt hp)
  have h3 : x % 2 ^ m.toNat ≤ x := by
    obtain ⟨X, rfl⟩ := Int.eq_ofNat_of_zero_le h0
    rw [pow_cast, ← Int.natCast_emod]
    exact Int.ofNat_le.2 (Nat.mod_le _ _)
  omega

set_option maxHeartbeats 400000 in
theorem get_yes (x a m : Int) (w : World) (h0 : 0 ≤ x) (h1 : x < 18446744073709551616) (ha : 0 ≤ a) (hm : 1 ≤ m) (h2 : m ≤ 64) (h3 : a ≤ 64 - m) :
    Calls Tryd.prog 94 #[.int .u64 x, .int .i64 a, .int .i64 m] w fun e w' => e = .returned (.int .u64 (getI x a m)) ∧ w = w' := by
  have h63 : a < 64 := by omega
  go_enter Tryd.func94, Tryd.ntmps94
  have hs := shr_bd x a.toNat h0 h1
  go_wp2_with (first | (go_at_call 105; refine (fits_yes _ _ _ ha hm h2 h3).mono ?_; rintro e w' ⟨rfl, rfl⟩) | (go_at_call 102; refine (lowest_any _ m _ hs.1 hs.2 (by omega) h2).mono ?_; rintro e w' ⟨rfl, rfl⟩))
  go_ret
  refine ⟨?_, rfl⟩
  show Ending.returned (.int .u64 (lowI (x / 2 ^ a.toNat) m)) = _
  unfold lowI getI getN
  obtain ⟨X, rfl⟩ := Int.eq_ofNat_of_zero_le h0
  rw [Int.natCast_emod, Int.natCast_ediv, Int.natCast_pow, Int.natCast_pow]
  rfl

set_option maxHeartbeats 400000 in
theorem put_yes (x a m v : Int) (w : World) (h0 : 0 ≤ x) (h1 : x < 18446744073709551616) (ha : 0 ≤ a) (hm : 1 ≤ m) (h2 : m ≤ 64) (h3 : a ≤ 64 - m) (hv0 : 0 ≤ v) (hv1 : v < 18446744073709551616) :
    Calls Tryd.prog 95 #[.int .u64 x, .int .i64 a, .int .i64 m, .int .u64 v] w fun e w' => e = .returned (.int .u64 (putI x a m v)) ∧ w = w' := by
  have h63 : a < 64 := by omega
  go_enter Tryd.func95, Tryd.ntmps95
  go_wp2_with (first | (go_at_call 105; refine (fits_yes _ _ _ ha hm h2 h3).mono ?_; rintro e w' ⟨rfl, rfl⟩) | (go_at_call 102; refine (lowest_any _ m _ (by omega) (by omega) (by omega) h2).mono ?_; rintro e w' ⟨rfl, rfl⟩))
  go_ret
  refine ⟨?_, rfl⟩
  show Ending.returned (.int .u64 (bits BinOp.or IntKind.u64 (bits BinOp.andNot IntKind.u64 x (IntKind.u64.wrap (lowI 18446744073709551615 m * 2 ^ a.toNat))) (IntKind.u64.wrap (lowI v m * 2 ^ a.toNat)))) = _
  unfold lowI putI
  rw [put_walk x v a.toNat m.toNat h0 h1 hv0 (by omega)]

theorem getI_bd (x a m : Int) (h0 : 0 ≤ x) (h1 : x < 18446744073709551616) : 0 ≤ getI x a m ∧ getI x a m < 18446744073709551616 := by
  unfold getI getN
  have h2 : x.toNat / 2 ^ a.toNat % 2 ^ m.toNat ≤ x.toNat := Nat.le_trans (Nat.mod_le _ _) (Nat.div_le_self _ _)
  omega
theorem putI_bd (x a m v : Int) (h0 : 0 ≤ x) (h1 : x < 18446744073709551616) (_ha : 0 ≤ a) (hm : 1 ≤ m) (h2 : m ≤ 64) (h3 : a ≤ 64 - m) : 0 ≤ putI x a m v ∧ putI x a m v < 18446744073709551616 := by
  unfold putI
  have := putN_lt x.toNat a.toNat m.toNat v.toNat (by omega) (by omega)
  omega
end Go.Proofs.YtnjifmecaeagaaaDoor
