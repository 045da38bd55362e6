/-
  The laws of package seal: SealOpens.
-/
import Derived.Test.YtkmfncnfpneekaaUSeal7
set_option linter.unusedVariables false
namespace Go.Proofs.Ytkmfncnfpneekaa
open Go.RowKit

set_option maxHeartbeats 1000000 in
/-- two lists of the same words are one -/
theorem words_same (v u : Value) (l : List Nat) (w : World) (hlen : l.length ≤ 1000) (hv : SL w v l) (hu : SL w u l) :
    Calls Try.prog 13 #[v, u] w fun e w' => e = .returned (.bool true) ∧ Below w.heap.size w w' := by
  cases hn : l.length with
  | zero =>
    obtain ⟨sp, cap, rfl⟩ := hv.form
    obtain ⟨sq, caq, rfl⟩ := hu.form
    rw [hn]
    go_enter Try.func13, Try.ntmps13
    go_wp2_with fail
    go_loopw [5] (fun i wr => i = .int .i64 0 ∧ Below w.heap.size w wr) (fun _ _ => 0)
    case atStart => exact ⟨rfl, Below.refl _ _⟩
    case round =>
      obtain ⟨rfl, hB⟩ := hrel
      go_wp2_with fail
      go_ret
      exact ⟨rfl, hB⟩
  | succ N =>
    obtain ⟨g, o, p, rfl, hg, hp, hc⟩ := hv.pos hn
    obtain ⟨g2, o2, p2, rfl, hg2, hp2, hc2⟩ := hu.pos hn
    have HC := Lib.hid hc
    have HC2 := Lib.hid hc2
    clear hc hc2 hv hu
    generalize hM : N + 1 = M at *
    have hM1 : M ≤ 1000 := by omega
    clear hn hlen hM
    go_enter Try.func13, Try.ntmps13
    go_wp2_with fail
    go_loopw [5] (fun i wr => ∃ k : Nat, k ≤ M ∧ i = .int .i64 k ∧ Below w.heap.size w wr) (fun i _ => M + 1 - (intOf i).toNat)
    case atStart => exact ⟨0, Nat.zero_le _, rfl, Below.refl _ _⟩
    case round =>
      obtain ⟨k, hk, rfl, hB⟩ := hrel
      by_cases hlt : k < M
      · have hlt' : (k : Int) < (M : Int) := by omega
        have c1 := ((bcell hB).1 g (o + k) hg).trans (HC.out k hlt)
        have c2 := ((bcell hB).1 g2 (o2 + k) hg2).trans (HC2.out k hlt)
        generalize l.getD k 0 = x at *
        have e1 : ((x : Int) == (x : Int)) = true := by simp
        go_wp2_with fail
        go_region
        all_goals (try go_wp2_with fail)
        go_roundw
        case rel => exact ⟨k + 1, by omega, by go_num, hB.drew⟩
        case measure => simp [intOf]; omega
      · obtain rfl : k = M := by omega
        go_wp2_with fail
        go_ret
        exact ⟨rfl, hB⟩

end Go.Proofs.Ytkmfncnfpneekaa