/-
  Part of the proof of SoundTells,SoundGiven.
-/
import Derived.Test.YtdmmbnnejbmdpaaGreatDoorVu921
import Derived.Test.YtdmmbnnejbmdpaaGreatDoorVu93
import Derived.Test.YtdmmbnnejbmdpaaGreatDoorVu930
import Derived.Test.YtdmmbnnejbmdpaaGreatDoorVu95
import Derived.Test.YtdmmbnnejbmdpaaGreatDoorVu99
import Derived.Laws.BitsAllLaws
import Derived.Test.YtdmmbnnejbmdpaaGreatDoorVu90
set_option maxRecDepth 10000
set_option maxHeartbeats 1000000
set_option linter.unusedVariables false
set_option linter.unusedSimpArgs false
section
namespace Go.Proofs.YtdmmbnnejbmdpaaGreatDoor
open Go.RowKit
theorem refChunks_out (W L : Int) (w : World) (h : L < 1 ∨ 64 < L ∨ 65536 < W) :
 Calls Tryz.prog 65 #[.agg #[.int .i64 W, .int .i64 L]] w fun e w' => e = .returned (.int .i64 0) ∧ Below w.heap.size w w' := by
 by_cases a1 : L < 1
 ·clear h
  go_enter Tryz.func65, Tryz.ntmps65
  go_wp2
  go_ret
  exact ⟨rfl, by go_grown⟩
 by_cases a2 : 64 < L
 ·clear h
  go_enter Tryz.func65, Tryz.ntmps65
  go_wp2
  go_ret
  exact ⟨rfl, by go_grown⟩
 have a3 : 65536 < W := by omega
 clear h
 go_enter Tryz.func65, Tryz.ntmps65
 go_wp2
 go_ret
 exact ⟨rfl, by go_grown⟩
def rN (W L : Int) : Int := if gOk W L then gN W L else 0
theorem refChunks_in (W L : Int) (w : World) (h1 : 1 ≤ L) (h2 : L ≤ 64) (h3 : W ≤ 65536) :
 Calls Tryz.prog 65 #[.agg #[.int .i64 W, .int .i64 L]] w fun e w' => e = .returned (.int .i64 (rN W L)) ∧ Below w.heap.size w w' := by
 go_enter Tryz.func65, Tryz.ntmps65
 go_wp2
 go_loop [3] (fun n => ∃ k : Nat, n = .int .i64 k ∧ (k = 0 ∨ 10 + 73 * L + 33 * (k : Int) ≤ W)) (fun n => 2000 - (intOf n).toNat)
 case atStart => exact ⟨0, rfl, .inl rfl⟩
 case round =>
  obtain ⟨k, rfl, hk⟩ := hrel
  have hk2 : (k : Int) ≤ 1990 := by omega
  by_cases hlt : 10 + 73 * L + 33 * ((k : Int) + 1) ≤ W
  ·clear hk
   go_wp2
   go_round
   case rel => exact ⟨k + 1, by go_num, .inr (by omega)⟩
   case measure => simp [intOf]; omega
  ·have Hk := lh hk
   clear hk
   go_wp2
   go_ret
   refine ⟨ret_i ?_, by go_grown⟩
   have hk := Hk.out
   unfold rN
   by_cases ho : gOk W L = true
   ·have := gN_bd ho
    rw [if_pos ho]; omega
   ·rw [if_neg ho]
    have := gOk_f (by simpa using ho : gOk W L = false)
    omega
theorem refChunks_t (W L : Int) (w : World) (h : gOk W L = true) :
 Calls Tryz.prog 65 #[.agg #[.int .i64 W, .int .i64 L]] w fun e w' => e = .returned (.int .i64 (gN W L)) ∧ Below w.heap.size w w' := by
 obtain ⟨h1, h2, h3, h4⟩ := gOk_t h
 have := refChunks_in W L w h1 h2 h3
 rwa [show rN W L = gN W L from if_pos h] at this
theorem refChunks_f (W L : Int) (w : World) (h : gOk W L = false) :
 Calls Tryz.prog 65 #[.agg #[.int .i64 W, .int .i64 L]] w fun e w' => e = .returned (.int .i64 0) ∧ Below w.heap.size w w' := by
 by_cases ho : L < 1 ∨ 64 < L ∨ 65536 < W
 ·exact refChunks_out W L w ho
 ·have := refChunks_in W L w (by omega) (by omega) (by omega)
  rwa [show rN W L = 0 from if_neg (by simp [h])] at this
theorem refRight_t (W L : Int) (w : World) (h : gOk W L = true) :
 Calls Tryz.prog 64 #[.agg #[.int .i64 W, .int .i64 L]] w fun e w' => e = .returned (.bool true) ∧ Below w.heap.size w w' := by
 obtain ⟨n1, n2, n3, n4⟩ := gN_bd h
 have H := lh h
 clear h
 go_enter Tryz.func64, Tryz.ntmps64
 go_wp2_with fail
 refine (refChunks_t W L _ H.out).mono ?_
 rintro e w1 ⟨rfl, hb⟩
 go_wp2_with fail
 go_ret
 exact ⟨rfl, (bZ _ _).trans (hb.mono (by simp))⟩
theorem refRight_f (W L : Int) (w : World) (h : gOk W L = false) :
 Calls Tryz.prog 64 #[.agg #[.int .i64 W, .int .i64 L]] w fun e w' => e = .returned (.bool false) ∧ Below w.heap.size w w' := by
 have H := lh h
 clear h
 go_enter Tryz.func64, Tryz.ntmps64
 go_wp2_with fail
 refine (refChunks_f W L _ H.out).mono ?_
 rintro e w1 ⟨rfl, hb⟩
 go_wp2_with fail
 go_ret
 exact ⟨rfl, (bZ _ _).trans (hb.mono (by simp))⟩
end Go.Proofs.YtdmmbnnejbmdpaaGreatDoor
end
section
namespace Go.Proofs.YtdmmbnnejbmdpaaGreatDoor
open Go.RowKit
def pwI (i : Nat) : Int := ((2 ^ i : Nat) : Int)
theorem refPower10 (i : Nat) (w : World) (hi : i < 64) : Calls Tryz.prog 96 #[.int .i64 i] w fun e w' => e = .returned (.int .u64 (pwI i)) ∧ w = w' := by
 go_enter Tryz.func96, Tryz.ntmps96
 go_wp2
 go_loop [3, 4] (fun v k => ∃ j : Nat, j ≤ i ∧ k = .int .i64 j ∧ v = .int .u64 ((2 ^ j : Nat) : Int)) (fun _ k => 65 - (intOf k).toNat)
 case atStart => exact ⟨0, by omega, rfl, by simp⟩
 case round =>
  obtain ⟨j, hj, rfl, rfl⟩ := hrel
  have hp := pow_lt64 (k := j) (by omega)
  have hps : 2 * 2 ^ j = 2 ^ (j + 1) := by rw [Nat.pow_succ, Nat.mul_comm]
  by_cases hlt : (j : Int) < i
  ·have hp2 := pow_lt64 (k := j + 1) (by omega)
   rw [← hps] at hp2
   generalize hy : 2 ^ j = y at *
   have HD := lh hps
   clear hps hy
   go_wp2
   go_round
   case rel => exact ⟨j + 1, by omega, by go_num, by rw [← HD.out]; go_num⟩
   case measure => simp [intOf]; omega
  ·obtain rfl : j = i := by omega
   clear hps hp
   have HP : Hid (pwI j = ((2 ^ j : Nat) : Int)) := rfl
   generalize 2 ^ j = y at *
   go_wp2
   go_ret
   exact ⟨by rw [HP.out]; rfl, rfl⟩
end Go.Proofs.YtdmmbnnejbmdpaaGreatDoor
end
section
namespace Go.Proofs.YtdmmbnnejbmdpaaGreatDoor
open Go.RowKit Go.ChangeShapes Go.WideShapes Go.Deep
theorem KL.nil (w : World) (A : Option Addr) (cap : Nat) : KL .u64 w (.slice A 0 cap) [] := ⟨A, cap, rfl, fun h => by simp at h⟩
theorem OPL.one (w : World) (o : Ox) : OPL (w.alloc (.cells #[.int .i64 o.1, .int .i64 o.2.1, .int .u64 (o.2.2 : Nat)] (144 : Nat))) (.slice (some ⟨w.heap.size, 0, none⟩) 1 1) [o] := (OwnE.lit 144 opE_len w [o] _ rfl (by simp)).el opE_len
end Go.Proofs.YtdmmbnnejbmdpaaGreatDoor
end
section
namespace Go.Proofs.YtdmmbnnejbmdpaaGreatDoor
open Go.RowKit
theorem has_yes (W L i : Int) (w : World) (h : gOk W L = true) (hi : 0 ≤ i) (hi2 : i < L) :
 Calls Tryz.prog 103 #[.agg #[.int .i64 W, .int .i64 L], .int .i64 i] w fun e w' => e = .returned (.bool true) ∧ Below w.heap.size w w' := by
 have H := lh h
 clear h
 go_enter Tryz.func103, Tryz.ntmps103
 go_wp2_with fail
 refine (right_t W L _ H.out).mono ?_
 rintro e w1 ⟨rfl, hb⟩
 have k1 := (C2.new w (.int .i64 W) (.int .i64 L) 51).keep hb
 obtain ⟨c0, c1⟩ := id k1
 go_wp2_with fail
 go_ret
 exact ⟨ret_b (by simp), (bZ _ _).trans (hb.mono (by simp))⟩
theorem has_t (W L i : Int) (w : World) (h : lOk W L i = true) :
 Calls Tryz.prog 103 #[.agg #[.int .i64 W, .int .i64 L], .int .i64 i] w fun e w' => e = .returned (.bool true) ∧ Below w.heap.size w w' := has_yes W L i w (lOk_t h).1 (lOk_t h).2.1 (lOk_t h).2.2
theorem mark_t (W L i : Int) (w : World) (h : lOk W L i = true) :
 Calls Tryz.prog 71 #[.agg #[.int .i64 W, .int .i64 L], .int .i64 i] w fun e w' => e = .returned (.int .i64 (10 + i)) ∧ Below w.heap.size w w' := by
 obtain ⟨h0, h1, h2⟩ := lOk_t h
 obtain ⟨h3, h4, _, _⟩ := gOk_t h0
 clear h0
 have H := lh h
 clear h
 go_enter Tryz.func71, Tryz.ntmps71
 go_wp2_with fail
 refine (has_t W L i _ H.out).mono ?_
 rintro e w1 ⟨rfl, hb⟩
 go_wp2_with fail
 go_ret
 exact ⟨rfl, (bZ _ _).trans (hb.mono (by simp))⟩
end Go.Proofs.YtdmmbnnejbmdpaaGreatDoor
end
section
set_option maxRecDepth 100000
namespace Go.Proofs.YtdmmbnnejbmdpaaGreatDoor
open Go.RowKit Go.Lib
theorem decode_any_oc (v : Value) (l : List Nat) (w : World) (hv : KL .u64 w v l) (h64 : ∀ x ∈ l, x < 18446744073709551616) :
 Calls Tryz.prog 86 #[v] w fun e w' => e = .returned (.tuple #[pV (decH l), .bool (decH l).isSome]) ∧ Below w.heap.size w w' := by
 by_cases h2 : l.length < 2
 ·have e : decH l = none := by unfold decH; rw [if_pos h2]
  rw [e]; exact decode_short v l w hv h2
 ·have hx : l.getD 0 0 < 18446744073709551616 := by
   refine h64 _ ?_
   rw [List.getD_eq_getElem?_getD, List.getElem?_eq_getElem (by omega)]; exact List.getElem_mem _
  by_cases hr : hdB (l.getD 0 0 % 65536 : Nat) (l.getD 0 0 / 65536 % 65536 : Nat) (l.getD 1 0 : Nat) = true
  ·by_cases hs : hdW (l.getD 0 0 % 65536) (l.getD 0 0 / 65536 % 65536) = l.getD 0 0
   ·have e : decH l = some (l.getD 0 0 % 65536, l.getD 0 0 / 65536 % 65536, l.getD 1 0) := by
     unfold decH; rw [if_neg h2, hr, decide_eq_true ((hdW_is _).1 hs)]; rfl
    rw [e]
    exact decode_yes v l _ _ w hv h2 rfl rfl hx _ _ rfl rfl hr hs
   ·have e : decH l = none := by
     unfold decH; rw [if_neg h2, hr, decide_eq_false (fun q => hs ((hdW_is _).2 q))]; rfl
    rw [e]
    exact decode_sign v l _ _ w hv h2 rfl rfl hx _ _ rfl rfl hr _ rfl hs
  ·have e : decH l = none := by
    unfold decH; rw [if_neg h2, eq_false_of_ne_true hr]; rfl
   rw [e]
   exact decode_no v l _ _ w hv h2 rfl rfl hx _ _ rfl rfl (eq_false_of_ne_true hr)
end Go.Proofs.YtdmmbnnejbmdpaaGreatDoor
end
section
set_option maxRecDepth 100000
namespace Go.Proofs.YtdmmbnnejbmdpaaGreatDoor
open Go.RowKit Go.Lib
theorem C2.kl {w : World} {g x n : Nat} (h : C2 w g (.int .u64 x) (.int .u64 n)) : KL .u64 w (.slice (some ⟨g, 0, none⟩) 2 2) [x, n] := by
 refine ⟨_, 2, rfl, fun _ => ⟨g, 0, rfl, h.lt, by simp, fun i hi => ?_⟩⟩
 match i, hi with
 | 0, _ => exact h.1
 | 1, _ => exact h.2
theorem KL.alloc {w : World} {v : Value} {l : List Nat} (h : KL .u64 w v l) (o : Obj) : KL .u64 (w.alloc o) v l := h.keep (bZ _ _)
end Go.Proofs.YtdmmbnnejbmdpaaGreatDoor
end
section
set_option maxRecDepth 100000
namespace Go.Proofs.YtdmmbnnejbmdpaaGreatDoor
open Go.RowKit Go.Lib
theorem below1 (w : World) (o : Obj) : Below w.heap.size w (w.alloc o) := bZ _ _
end Go.Proofs.YtdmmbnnejbmdpaaGreatDoor
end
