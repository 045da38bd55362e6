/-
  The laws of package seal: SealBursts, whole.
-/
import Derived.Test.YthklgmpphfdfoaaSealB3
set_option linter.unusedVariables false
namespace Go.Proofs.Ythklgmpphfdfoaa
open Go.RowKit

set_option maxHeartbeats 1000000 in
theorem sealBursts_out (a B n : Nat) (sp : Option Addr) (cap : Nat) (w : World) (h : n = 0 ∨ 40 < n) :
    Calls Try.prog 6 #[.slice sp n cap, .int .u16 a, .int .u32 B] w fun e w' => e = .returned (.bool true) ∧ Below w.heap.size w w' := by
  by_cases h0 : n = 0
  · subst h0
    go_enter Try.func6, Try.ntmps6
    go_wp2_with fail
    refine (awake02 _).mono ?_
    rintro e w1 ⟨rfl, hb1⟩
    go_wp2_with fail
    go_ret
    exact ⟨rfl, hb1⟩
  · have h1 : (40 : Int) < (n : Int) := by omega
    have h2 : ¬ (n : Int) = 0 := by omega
    have h3 : ((n : Int) == 0) = false := by rw [beq_eq_false_iff_ne]; exact h2
    clear h
    go_enter Try.func6, Try.ntmps6
    go_wp2_with fail
    refine (awake02 _).mono ?_
    rintro e w1 ⟨rfl, hb1⟩
    go_wp2_with fail
    go_ret
    exact ⟨rfl, hb1⟩
theorem sealBursts (a B : Nat) (l : List Nat) (v : Value) (w : World) (ha : a < 65536) (hB : B < 4294967296) (hl : WL l) (hv : SL w v l) :
    Calls Try.prog 6 #[v, .int .u16 a, .int .u32 B] w fun e w' => e = .returned (.bool true) ∧ Below w.heap.size w w' := by
  by_cases h : l.length = 0 ∨ 40 < l.length
  · obtain ⟨sp, cap, rfl⟩ := hv.form
    exact sealBursts_out a B _ sp cap w h
  · obtain ⟨N, hn⟩ : ∃ N, l.length = N + 1 := ⟨l.length - 1, by omega⟩
    obtain ⟨g, off, cap, rfl, hg, hcap, hc⟩ := hv.pos hn
    exact sealBursts_in a B l N g off cap w ha hB hl (by omega) hn hcap hg (Lib.hid hc)
end Go.Proofs.Ythklgmpphfdfoaa
