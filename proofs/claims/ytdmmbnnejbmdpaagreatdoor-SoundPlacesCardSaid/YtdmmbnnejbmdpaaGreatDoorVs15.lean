/-
  Part of the proof of SoundPlaces.
-/
import Derived.Test.YtdmmbnnejbmdpaaGreatDoorVs14
import Derived.Test.YtdmmbnnejbmdpaaGreatDoorVs0
set_option maxRecDepth 10000
set_option maxHeartbeats 400000
set_option linter.unusedVariables false
set_option linter.unusedSimpArgs false
section
namespace Go.Proofs.YtdmmbnnejbmdpaaGreatDoor
open Go.RowKit
def smW (a b c : Int) : Int := 10 + 73 * (1 + a % 64) + 33 * (1 + b % 200) + c % 33
def smL (a : Int) : Int := 1 + a % 64
theorem small_any (a b c : Int) (w : World) (h1 : 0 ≤ a) (h2 : a ≤ 255) (h3 : 0 ≤ b) (h4 : b ≤ 255) (h5 : 0 ≤ c) (h6 : c ≤ 255) :
 Calls Tryz.prog 59 #[.int .u8 a, .int .u8 b, .int .u8 c] w fun e w' => e = .returned (.agg #[.int .i64 (smW a b c), .int .i64 (smL a)]) ∧ Below w.heap.size w w' := by
 go_enter Tryz.func59, Tryz.ntmps59
 go_wp2
 go_returns
 refine ⟨?_, by go_grown⟩
 unfold smW smL
 exact ret_g (by omega) (by omega)
end Go.Proofs.YtdmmbnnejbmdpaaGreatDoor
end
section
namespace Go.Proofs.YtdmmbnnejbmdpaaGreatDoor
open Go.RowKit Go.Shelf
attribute [local go_sem] Oper.semAt_some
def heldN (m : Int) : Nat := (min (max m 0) 64).toNat
def lowN (x : Nat) (m : Int) : Nat := x % 2 ^ heldN m
theorem lowN_lt (x : Nat) (m : Int) (hx : x < 18446744073709551616) : lowN x m < 18446744073709551616 := Nat.lt_of_le_of_lt (Nat.mod_le _ _) hx
theorem lowest_all (x : Nat) (m : Int) (w : World) (h1 : x < 18446744073709551616) :
 Calls Tryz.prog 120 #[.int .u64 x, .int .i64 m] w fun e w' => e = .returned (.int .u64 (lowN x m)) ∧ w = w' := by
 by_cases h : m ≤ 0
 ·have e : lowN x m = 0 := by unfold lowN heldN; rw [show (min (max m 0) 64).toNat = 0 by omega]; simp [Nat.mod_one]
  rw [e]
  have hz : bits .and .u64 (x : Int) 0 = 0 := by simpa using u64_and_nat x 0 h1 (by decide)
  by_cases h0 : m = 0
  ·subst h0
   go_enter Tryz.func120, Tryz.ntmps120
   go_wp2
   go_ret
   exact ⟨rfl, rfl⟩
  ·have hlt : m < 0 := by omega
   go_enter Tryz.func120, Tryz.ntmps120
   go_wp2
   go_ret
   exact ⟨rfl, rfl⟩
 ·by_cases h2 : m ≤ 64
  ·have := lowest_any (x : Int) m w (by omega) (by omega) (by omega) h2
   refine this.mono ?_
   rintro e w' ⟨rfl, rfl⟩
   refine ⟨?_, rfl⟩
   unfold lowI lowN heldN
   rw [show (min (max m 0) 64).toNat = m.toNat by omega, Int.natCast_emod, Int.natCast_pow]
   rfl
  ·have e : lowN x m = x := by unfold lowN heldN; rw [show (min (max m 0) 64).toNat = 64 by omega]; exact Nat.mod_eq_of_lt h1
   rw [e]
   have h64 : 64 < m := by omega
   go_enter Tryz.func120, Tryz.ntmps120
   go_wp2
   go_ret
   exact ⟨rfl, rfl⟩
theorem ones_len (r n : Nat) : (onesL r n).length ≤ n := by
 have := List.length_filter_le r.testBit (List.range n)
 rwa [List.length_range] at this
end Go.Proofs.YtdmmbnnejbmdpaaGreatDoor
end
section
namespace Go.Proofs.YtdmmbnnejbmdpaaGreatDoor
open Go.RowKit
theorem refMark_yes (W L i : Int) (w : World) (h : gOk W L = true) (hi : 0 ≤ i) (hi2 : i < L) :
 Calls Tryz.prog 57 #[.agg #[.int .i64 W, .int .i64 L], .int .i64 i] w fun e w' => e = .returned (.int .i64 (10 + i)) ∧ Below w.heap.size w w' := by
 obtain ⟨h1, h2, h3, h4⟩ := gOk_t h
 have H := lh h
 clear h
 go_enter Tryz.func57, Tryz.ntmps57
 go_wp2_with fail
 refine (refRight_t W L _ H.out).mono ?_
 rintro e w1 ⟨rfl, hb⟩
 have j1 := (C2.new w (.int .i64 W) (.int .i64 L) 51).keep hb
 obtain ⟨d0, d1⟩ := id j1
 go_wp2_with fail
 go_ret
 exact ⟨rfl, (bZ _ _).trans (hb.mono (by simp))⟩
theorem refMark_t (W L i : Int) (w : World) (h : lOk W L i = true) :
 Calls Tryz.prog 57 #[.agg #[.int .i64 W, .int .i64 L], .int .i64 i] w fun e w' => e = .returned (.int .i64 (10 + i)) ∧ Below w.heap.size w w' := refMark_yes W L i w (lOk_t h).1 (lOk_t h).2.1 (lOk_t h).2.2
theorem refLog_yes (W L i : Int) (w : World) (h : gOk W L = true) (hi : 0 ≤ i) (hi2 : i < L) :
 Calls Tryz.prog 92 #[.agg #[.int .i64 W, .int .i64 L], .int .i64 i] w fun e w' => e = .returned (.agg #[.int .i64 (10 + L + i * 72), .int .i64 32]) ∧ Below w.heap.size w w' := by
 obtain ⟨h1, h2, h3, h4⟩ := gOk_t h
 have H := lh h
 clear h
 go_enter Tryz.func92, Tryz.ntmps92
 go_wp2_with fail
 refine (refRight_t W L _ H.out).mono ?_
 rintro e w1 ⟨rfl, hb⟩
 have k1 := (C2.new (w.alloc (.cells #[.int .i64 W, .int .i64 L] 51)) (.int .i64 0) (.int .i64 0) 57).keep hb
 have j1 := ((C2.new w (.int .i64 W) (.int .i64 L) 51).alloc (.cells #[.int .i64 0, .int .i64 0] 57)).keep hb
 have f1 := (F2.new (w.alloc (.cells #[.int .i64 W, .int .i64 L] 51)) (.int .i64 0) (.int .i64 0) 57).keep (by simp) hb
 simp only [World.size_alloc] at k1 f1
 have hB : Below w.heap.size w w1 := ((bZ _ _).alloc (by simp) _).trans (hb.mono (by simp; omega))
 have lt1 := k1.lt
 obtain ⟨c0, c1⟩ := id k1
 obtain ⟨d0, d1⟩ := id j1
 obtain ⟨g0, g1⟩ := id f1
 go_wp2_with fail
 refine bodyPost_ret (v := .agg #[.int .i64 (10 + L + i * 72), .int .i64 32]) (by simp [results, Tryz.results92, go_sem, c0, c1]; try omega) rfl ⟨rfl, ?_⟩
 go_grown
theorem refLog_t (W L i : Int) (w : World) (h : lOk W L i = true) :
 Calls Tryz.prog 92 #[.agg #[.int .i64 W, .int .i64 L], .int .i64 i] w fun e w' => e = .returned (.agg #[.int .i64 (10 + L + i * 72), .int .i64 32]) ∧ Below w.heap.size w w' := refLog_yes W L i w (lOk_t h).1 (lOk_t h).2.1 (lOk_t h).2.2
theorem refRedo_yes (W L i : Int) (w : World) (h : gOk W L = true) (hi : 0 ≤ i) (hi2 : i < L) :
 Calls Tryz.prog 55 #[.agg #[.int .i64 W, .int .i64 L], .int .i64 i] w fun e w' => e = .returned (.agg #[.int .i64 (10 + L + i * 72 + 32), .int .i64 40]) ∧ Below w.heap.size w w' := by
 obtain ⟨h1, h2, h3, h4⟩ := gOk_t h
 have H := lh h
 clear h
 go_enter Tryz.func55, Tryz.ntmps55
 go_wp2_with fail
 refine (refRight_t W L _ H.out).mono ?_
 rintro e w1 ⟨rfl, hb⟩
 have k1 := (C2.new (w.alloc (.cells #[.int .i64 W, .int .i64 L] 51)) (.int .i64 0) (.int .i64 0) 57).keep hb
 have j1 := ((C2.new w (.int .i64 W) (.int .i64 L) 51).alloc (.cells #[.int .i64 0, .int .i64 0] 57)).keep hb
 have f1 := (F2.new (w.alloc (.cells #[.int .i64 W, .int .i64 L] 51)) (.int .i64 0) (.int .i64 0) 57).keep (by simp) hb
 simp only [World.size_alloc] at k1 f1
 have hB : Below w.heap.size w w1 := ((bZ _ _).alloc (by simp) _).trans (hb.mono (by simp; omega))
 have lt1 := k1.lt
 obtain ⟨c0, c1⟩ := id k1
 obtain ⟨d0, d1⟩ := id j1
 obtain ⟨g0, g1⟩ := id f1
 go_wp2_with fail
 refine bodyPost_ret (v := .agg #[.int .i64 (10 + L + i * 72 + 32), .int .i64 40]) (by simp [results, Tryz.results55, go_sem, c0, c1]; try omega) rfl ⟨rfl, ?_⟩
 go_grown
theorem refRedo_t (W L i : Int) (w : World) (h : lOk W L i = true) :
 Calls Tryz.prog 55 #[.agg #[.int .i64 W, .int .i64 L], .int .i64 i] w fun e w' => e = .returned (.agg #[.int .i64 (10 + L + i * 72 + 32), .int .i64 40]) ∧ Below w.heap.size w w' := refRedo_yes W L i w (lOk_t h).1 (lOk_t h).2.1 (lOk_t h).2.2
end Go.Proofs.YtdmmbnnejbmdpaaGreatDoor
end
