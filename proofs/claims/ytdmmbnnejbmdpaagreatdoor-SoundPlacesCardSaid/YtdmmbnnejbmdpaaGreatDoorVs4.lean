/-
  Part of the proof of SoundPlaces.
-/
import Derived.Test.YtdmmbnnejbmdpaaGreatDoorVs1
import Derived.Test.YtdmmbnnejbmdpaaGreatDoorVs3
import Derived.Test.YtdmmbnnejbmdpaaGreatDoorRows
import Derived.Laws.BitsAllLaws
import Derived.WalkLawsBesides
import Derived.WalkSpells
import Derived.Test.YtdmmbnnejbmdpaaGreatDoorVs0
set_option maxRecDepth 10000
set_option maxHeartbeats 1000000
set_option linter.unusedVariables false
set_option linter.unusedSimpArgs false
section
namespace Go.Proofs.YtdmmbnnejbmdpaaGreatDoor
open Go.RowKit
def stepN (r w : Nat) : Nat := if (r ^^^ w) % 2 = 1 then (r / 2) ^^^ 3988292384 else r / 2
def turnN : Nat → Nat → Nat → Nat
 | 0, r, _ => r
 | n + 1, r, w => turnN n (stepN r w) (w / 2)
theorem xor_lt32 {a b : Nat} (ha : a < 4294967296) (hb : b < 4294967296) : a ^^^ b < 4294967296 := Nat.xor_lt_two_pow (n := 32) ha hb
theorem stepN_lt (r w : Nat) (hr : r < 4294967296) : stepN r w < 4294967296 := by
 unfold stepN
 split
 ·exact xor_lt32 (by omega) (by omega)
 ·omega
theorem turnN_lt (n : Nat) : ∀ (r w : Nat), r < 4294967296 → turnN n r w < 4294967296 := by
 induction n with
 | zero => intro r w h; exact h
 | succ n ih => intro r w h; exact ih _ _ (stepN_lt r w h)
theorem turn_any (n : Nat) : ∀ (r x : Nat) (w : World) (g : Nat), n ≤ 64 → r < 4294967296 → x < 18446744073709551616 → w.cell? ⟨g, 0, none⟩ = some (.func (.func 140) #[] #[.pointer (some ⟨g, 0, none⟩)]) →
 Calls Tryz.prog 140 #[.int .u32 r, .int .u64 x, .int .i64 n, .pointer (some ⟨g, 0, none⟩)] w fun e w' => e = .returned (.int .u32 (turnN n r x : Nat)) ∧ w = w' := by
 induction n with
 | zero =>
   intro r x w g hn hr hx hg
   go_enter Tryz.func140, Tryz.ntmps140
   go_wp2_with fail
   go_ret
   exact ⟨rfl, rfl⟩
 | succ n ih =>
   intro r x w g hn hr hx hg
   have e1 : bits .xor .u64 (r : Int) (x : Int) = ((r ^^^ x : Nat) : Int) := u64_xor_nat r x (by omega) hx
   have hl := stepN_lt r x hr
   have hI := ih (stepN r x) (x / 2) w g (by omega) hl (by omega) hg
   have ht : turnN (n + 1) r x = turnN n (stepN r x) (x / 2) := rfl
   rw [ht]
   generalize turnN n (stepN r x) (x / 2) = res at hI ⊢
   clear ih ht
   rw [show ((x / 2 : Nat) : Int) = (x : Int) / 2 by omega] at hI
   have e0 : ((n + 1 : Nat) : Int) = (n : Int) + 1 := by omega
   have hq : ¬ (n : Int) + 1 = 0 := by omega
   rw [e0]
   clear e0
   have e2 : bits .and .u64 ((r ^^^ x : Nat) : Int) 1 = (((r ^^^ x) % 2 : Nat) : Int) := by
    rw [show (1 : Int) = ((1 : Nat) : Int) from rfl, u64_and_nat _ 1 (Nat.xor_lt_two_pow (n := 64) (by omega) hx) (by omega), Nat.and_one_is_mod]
   by_cases h : (r ^^^ x) % 2 = 1
   ·have hs : ((stepN r x : Nat) : Int) = bits .xor .u32 ((r : Int) / 2) 3988292384 := by
     unfold stepN
     rw [if_pos h, show (r : Int) / 2 = ((r / 2 : Nat) : Int) by omega]
     exact (u32_xor_nat (r / 2) 3988292384 (by omega) (by omega)).symm
    rw [hs] at hI
    replace hI := lh hI
    have hT : (bits .and .u64 (bits .xor .u64 (r : Int) (x : Int)) 1 == 1) = true := by rw [e1, e2, h]; rfl
    clear hs e1 e2 h hl
    go_enter Tryz.func140, Tryz.ntmps140
    go_wp2_with fail
    refine hI.out.mono ?_
    rintro e w' ⟨rfl, rfl⟩
    go_wp2_with fail
    go_ret
    exact ⟨rfl, rfl⟩
   ·have h0 : (r ^^^ x) % 2 = 0 := by omega
    have hs : ((stepN r x : Nat) : Int) = (r : Int) / 2 := by
     unfold stepN
     rw [if_neg h]
     omega
    rw [hs] at hI
    replace hI := lh hI
    have hT : (bits .and .u64 (bits .xor .u64 (r : Int) (x : Int)) 1 == 1) = false := by rw [e1, e2, h0]; rfl
    clear hs e1 e2 h h0 hl
    go_enter Tryz.func140, Tryz.ntmps140
    go_wp2_with fail
    refine hI.out.mono ?_
    rintro e w' ⟨rfl, rfl⟩
    go_wp2_with fail
    go_ret
    exact ⟨rfl, rfl⟩
end Go.Proofs.YtdmmbnnejbmdpaaGreatDoor
end
section
namespace Go.Proofs.YtdmmbnnejbmdpaaGreatDoor
theorem mod_step (x n : Nat) : x % 2 ^ (n + 1) = x % 2 ^ n + if x.testBit n then 2 ^ n else 0 := by
 rw [Nat.pow_succ, Nat.mod_mul, Nat.testBit_eq_decide_div_mod_eq]
 rcases Nat.mod_two_eq_zero_or_one (x / 2 ^ n) with h | h <;> simp [h]
end Go.Proofs.YtdmmbnnejbmdpaaGreatDoor
end
