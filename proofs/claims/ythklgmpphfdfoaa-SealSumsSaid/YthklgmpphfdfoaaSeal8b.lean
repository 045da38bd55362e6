/-
  The laws of package seal: SealSums, whole.
-/
import Derived.Test.YthklgmpphfdfoaaSeal8
set_option linter.unusedVariables false
namespace Go.Proofs.Ythklgmpphfdfoaa
open Go.RowKit

theorem of_empty (sp : Option Addr) (cap : Nat) (w1 : World) : Calls Try.prog 16 #[.slice sp 0 cap] w1 fun e w' => e = .returned (.int .u32 0) ∧ Below w1.heap.size w1 w' := by
  have := of_any (.slice sp 0 cap) [] w1 WL0 (by simp) (.inl ⟨rfl, _, _, rfl⟩)
  rw [show moreN 0 [] = 0 by decide +kernel] at this
  exact this
set_option maxRecDepth 10000 in
set_option maxHeartbeats 1000000 in
theorem sealSums_nil (sa sb sc : Option Addr) (pa pb pc : Nat) (w : World) :
    Calls Try.prog 7 #[.slice sa 0 pa, .slice sb 0 pb, .slice sc 0 pc] w fun e w' => e = .returned (.bool true) ∧ Below w.heap.size w w' := by
  have e1 : bits .xor .u32 0 0 = 0 := u32_xor_nat 0 0 (by omega) (by omega)
  go_enter Try.func7, Try.ntmps7
  go_wp2_with fail
  refine (awake02 _).mono ?_
  rintro e w1 ⟨rfl, hb1⟩
  go_wp2_with fail
  go_loopw [8, 9] (fun v i wr => v = .slice none 0 0 ∧ i = .int .i64 0 ∧ Below w.heap.size w wr) (fun _ _ _ => 0)
  case atStart => exact ⟨rfl, rfl, hb1⟩
  case round =>
    obtain ⟨rfl, rfl, hB⟩ := hrel
    go_wp2_with fail
    refine (of_empty _ _ _).mono ?_
    rintro e w3 ⟨rfl, hb3⟩
    have hB3 := hB.trans (hb3.mono hB.size)
    go_wp2_with fail
    refine (of_empty _ _ _).mono ?_
    rintro e w4 ⟨rfl, hb4⟩
    have hB4 := hB3.trans (hb4.mono hB3.size)
    go_wp2_with fail
    refine (of_empty _ _ _).mono ?_
    rintro e w5 ⟨rfl, hb5⟩
    have hB5 := hB4.trans (hb5.mono hB4.size)
    go_wp2_with fail
    refine (of_empty _ _ _).mono ?_
    rintro e w6 ⟨rfl, hb6⟩
    have hB6 := hB5.trans (hb6.mono hB5.size)
    go_wp2_with fail
    go_ret
    exact ⟨ret_b (by first | rfl | (simp; done) | (simp [e1]; done) | decide), hB6⟩
set_option maxHeartbeats 1000000 in
theorem sealSums_out (sa sb sc : Option Addr) (na nb nc pa pb pc : Nat) (w : World) (h : 40 < na ∨ nb ≠ na ∨ nc ≠ na) :
    Calls Try.prog 7 #[.slice sa na pa, .slice sb nb pb, .slice sc nc pc] w fun e w' => e = .returned (.bool true) ∧ Below w.heap.size w w' := by
  by_cases h1 : 40 < na
  · have h1' : (40 : Int) < (na : Int) := by omega
    clear h
    go_enter Try.func7, Try.ntmps7
    go_wp2_with fail
    refine (awake02 _).mono ?_
    rintro e w1 ⟨rfl, hb1⟩
    go_wp2_with fail
    go_ret
    exact ⟨rfl, hb1⟩
  · have h1' : ¬ (40 : Int) < (na : Int) := by omega
    by_cases h2 : nb = na
    · subst h2
      have h3 : ¬ nc = nb := by omega
      have h3' : ¬ (nc : Int) = (nb : Int) := by omega
      have h3b : ((nc : Int) != (nb : Int)) = true := by rw [bne_iff_ne]; exact h3'
      have h3c : ((nc : Int) == (nb : Int)) = false := by rw [beq_eq_false_iff_ne]; exact h3'
      clear h
      go_enter Try.func7, Try.ntmps7
      go_wp2_with fail
      refine (awake02 _).mono ?_
      rintro e w1 ⟨rfl, hb1⟩
      go_wp2_with fail
      go_ret
      exact ⟨rfl, hb1⟩
    · have h2' : ¬ (nb : Int) = (na : Int) := by omega
      have h3b : ((nb : Int) != (na : Int)) = true := by rw [bne_iff_ne]; exact h2'
      have h3c : ((nb : Int) == (na : Int)) = false := by rw [beq_eq_false_iff_ne]; exact h2'
      clear h
      go_enter Try.func7, Try.ntmps7
      go_wp2_with fail
      refine (awake02 _).mono ?_
      rintro e w1 ⟨rfl, hb1⟩
      go_wp2_with fail
      go_ret
      exact ⟨rfl, hb1⟩
theorem sealSums (a b c : List Nat) (va vb vc : Value) (w : World) (la : WL a) (lb : WL b) (lc : WL c) (ha : SL w va a) (hb : SL w vb b) (hc : SL w vc c) :
    Calls Try.prog 7 #[va, vb, vc] w fun e w' => e = .returned (.bool true) ∧ Below w.heap.size w w' := by
  by_cases h : 40 < a.length ∨ b.length ≠ a.length ∨ c.length ≠ a.length
  · obtain ⟨sa, pa, rfl⟩ := ha.form
    obtain ⟨sb, pb, rfl⟩ := hb.form
    obtain ⟨sc, pc, rfl⟩ := hc.form
    exact sealSums_out sa sb sc _ _ _ pa pb pc w h
  · cases hn : a.length with
    | zero =>
      obtain ⟨sa, pa, rfl⟩ := ha.form
      obtain ⟨sb, pb, rfl⟩ := hb.form
      obtain ⟨sc, pc, rfl⟩ := hc.form
      rw [show a.length = 0 by omega, show b.length = 0 by omega, show c.length = 0 by omega]
      exact sealSums_nil sa sb sc pa pb pc w
    | succ n =>
      obtain ⟨ga, oa, pa, rfl, hga, hpa, fa⟩ := ha.pos hn
      obtain ⟨gb, ob, pb, rfl, hgb, hpb, fb⟩ := hb.pos (n := n) (by omega)
      obtain ⟨gc, oc, pc, rfl, hgc, hpc, fc⟩ := hc.pos (n := n) (by omega)
      exact sealSums_in a b c (n + 1) ga oa pa gb ob pb gc oc pc w la lb lc hn (by omega) (by omega) (by omega) hga hgb hgc ha hb hc (Lib.hid fa) (Lib.hid fb) (Lib.hid fc)
end Go.Proofs.Ythklgmpphfdfoaa
