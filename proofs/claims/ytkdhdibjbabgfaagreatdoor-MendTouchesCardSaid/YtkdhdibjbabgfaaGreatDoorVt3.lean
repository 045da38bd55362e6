/-
  Part of the proof of MendTouches.
-/
import Derived.Test.YtkdhdibjbabgfaaGreatDoorVt1
import Derived.Test.YtkdhdibjbabgfaaGreatDoorRows
import Derived.Laws.BitsAllLaws
import Derived.Laws.EntriesVeiled
import Derived.WalkLawsBesides
import Derived.WalkSpells
import Derived.Test.YtkdhdibjbabgfaaGreatDoorVt0
set_option maxRecDepth 10000
set_option maxHeartbeats 2000000
set_option linter.unusedVariables false
set_option linter.unusedSimpArgs false
section
namespace Go.Proofs.YtkdhdibjbabgfaaGreatDoor
theorem mod_step (x n : Nat) : x % 2 ^ (n + 1) = x % 2 ^ n + if x.testBit n then 2 ^ n else 0 := by
 rw [Nat.pow_succ, Nat.mod_mul, Nat.testBit_eq_decide_div_mod_eq]
 rcases Nat.mod_two_eq_zero_or_one (x / 2 ^ n) with h | h <;> simp [h]
end Go.Proofs.YtkdhdibjbabgfaaGreatDoor
end
section
namespace Go.Proofs.YtkdhdibjbabgfaaGreatDoor
open Go.RowKit
theorem bit_div (a p i : Nat) (hp : p = 2 ^ i) : a / p % 2 = (if a.testBit i then 1 else 0) := by
 subst hp
 rw [Nat.testBit_eq_decide_div_mod_eq]
 by_cases h : a / 2 ^ i % 2 = 1
 ·simp [h]
 ·simp [h]; omega
def pow31 (i : Nat) : Nat := if i < 31 then 2 ^ i else 2147483648
theorem pow31_bd (i : Nat) : 1 ≤ pow31 i ∧ pow31 i ≤ 2147483648 := by
 unfold pow31
 split
 ·rename_i h
  have := Nat.pow_le_pow_right (by omega : 2 > 0) (show i ≤ 31 by omega)
  have := Nat.one_le_two_pow (n := i)
  omega
 ·omega
theorem pow31_at (i : Nat) (h : i < 32) : pow31 i = 2 ^ i := by
 unfold pow31
 by_cases h2 : i < 31
 ·rw [if_pos h2]
 ·obtain rfl : i = 31 := by omega
  rfl
theorem pow31_next (i : Nat) (h : i < 31) : 2 * pow31 i = pow31 (i + 1) := by
 rw [pow31_at i (by omega), pow31_at (i + 1) (by omega), Nat.pow_succ, Nat.mul_comm]
theorem refXor_any (a b : Nat) (w : World) (ha : a < 4294967296) (hb : b < 4294967296) :
 Calls Tryz.prog 119 #[.int .u32 a, .int .u32 b] w fun e w' => e = .returned (.int .u32 (a ^^^ b : Nat)) ∧ Below w.heap.size w w' := by
 have hx : a ^^^ b < 4294967296 := xor_lt32 ha hb
 go_enter Tryz.func119, Tryz.ntmps119
 go_wp2_with fail
 go_loopw [5, 6, 7] (fun n p k wr => ∃ i : Nat, i ≤ 32 ∧ k = .int .i64 i ∧ n = .int .u32 ((a ^^^ b) % 2 ^ i : Nat) ∧ p = .int .u32 (pow31 i : Nat) ∧ Below w.heap.size w wr) (fun _ _ k _ => 33 - (intOf k).toNat)
 case atStart => exact ⟨0, by omega, rfl, by simp [Nat.mod_one], rfl, Below.refl _ _⟩
 case round =>
  obtain ⟨i, hi, rfl, rfl, rfl, hB⟩ := hrel
  by_cases hlt : i < 32
  ·have hstep := mod_step (a ^^^ b) i
   have hlast : (a ^^^ b) % 2 ^ (i + 1) ≤ a ^^^ b := Nat.mod_le _ _
   have hpa := pow31_at i hlt
   obtain ⟨p1, p2⟩ := pow31_bd i
   obtain ⟨_, p4⟩ := pow31_bd (i + 1)
   have da := bit_div a (pow31 i) i hpa
   have db := bit_div b (pow31 i) i hpa
   have hn : 31 ≤ i → pow31 (i + 1) = pow31 i := fun h => by unfold pow31; rw [if_neg (by omega), if_neg (by omega)]
   have hn2 : i < 31 → 2 * pow31 i = pow31 (i + 1) := fun h => pow31_next i h
   rw [Nat.testBit_xor] at hstep
   have hq : ¬ pow31 i = 0 := by omega
   have hlt' : (i : Int) < 32 := by omega
   have T : (((a : Int) / (pow31 i : Nat)) % 2 == ((b : Int) / (pow31 i : Nat)) % 2) = !(a.testBit i ^^ b.testBit i) := by
    rw [show (a : Int) / (pow31 i : Nat) % 2 = ((a / pow31 i % 2 : Nat) : Int) by omega, show (b : Int) / (pow31 i : Nat) % 2 = ((b / pow31 i % 2 : Nat) : Int) by omega, da, db]
    cases a.testBit i <;> cases b.testBit i <;> rfl
   clear da db
   generalize hG2 : (a ^^^ b) % 2 ^ (i + 1) = n2 at *
   generalize (a ^^^ b) % 2 ^ i = n at *
   rw [← hpa] at hstep
   clear hpa
   generalize hQ2 : pow31 (i + 1) = q2 at *
   generalize pow31 i = q at *
   replace hG2 := lh hG2
   replace hQ2 := lh hQ2
   cases hd : (a.testBit i ^^ b.testBit i)
   ·rw [hd] at T hstep
    simp only [Bool.not_false, Bool.false_eq_true, if_false, Nat.add_zero] at T hstep
    subst hstep
    by_cases h31 : i < 31
    ·have h31' : (i : Int) < 31 := by omega
     have hq2 := hn2 h31
     clear hn hn2
     go_wp2_with fail
     go_region
     all_goals (try go_wp2_with fail)
     go_roundw
     case rel => exact ⟨i + 1, by omega, by go_num, by rw [hG2.out], by rw [hQ2.out, ← hq2]; go_num, hB.drew⟩
     case measure => simp [intOf]; omega
    ·have h31' : ¬ (i : Int) < 31 := by omega
     have hq2 := hn (by omega)
     clear hn hn2
     go_wp2_with fail
     go_region
     all_goals (try go_wp2_with fail)
     go_roundw
     case rel => exact ⟨i + 1, by omega, by go_num, by rw [hG2.out], by rw [hQ2.out, hq2], hB.drew⟩
     case measure => simp [intOf]; omega
   ·rw [hd] at T hstep
    simp only [Bool.not_true, if_true] at T hstep
    by_cases h31 : i < 31
    ·have h31' : (i : Int) < 31 := by omega
     have hq2 := hn2 h31
     clear hn hn2
     go_wp2_with fail
     go_region
     all_goals (try go_wp2_with fail)
     go_roundw
     case rel => exact ⟨i + 1, by omega, by go_num, by rw [hG2.out, hstep]; go_num, by rw [hQ2.out, ← hq2]; go_num, hB.drew⟩
     case measure => simp [intOf]; omega
    ·have h31' : ¬ (i : Int) < 31 := by omega
     have hq2 := hn (by omega)
     clear hn hn2
     go_wp2_with fail
     go_region
     all_goals (try go_wp2_with fail)
     go_roundw
     case rel => exact ⟨i + 1, by omega, by go_num, by rw [hG2.out, hstep]; go_num, by rw [hQ2.out, hq2], hB.drew⟩
     case measure => simp [intOf]; omega
  ·obtain rfl : i = 32 := by omega
   rw [Nat.mod_eq_of_lt (show a ^^^ b < 2 ^ 32 from hx)]
   go_wp2_with fail
   go_ret
   exact ⟨rfl, hB⟩
theorem refOn_any (r x : Nat) (w : World) (hr : r < 4294967296) (hx : x < 18446744073709551616) :
 Calls Tryz.prog 90 #[.int .u32 r, .int .u64 x] w fun e w' => e = .returned (.int .u32 (turnN 64 r x : Nat)) ∧ Below w.heap.size w w' := by
 go_enter Tryz.func90, Tryz.ntmps90
 go_wp2_with fail
 go_loopw [0, 1, 5] (fun a b k wr => ∃ i r1 x1 : Nat, i ≤ 64 ∧ k = .int .i64 i ∧ a = .int .u32 r1 ∧ b = .int .u64 x1 ∧ r1 < 4294967296 ∧ x1 < 18446744073709551616 ∧ Hid (turnN (64 - i) r1 x1 = turnN 64 r x) ∧ Below w.heap.size w wr) (fun _ _ k _ => 65 - (intOf k).toNat)
 case atStart => exact ⟨0, r, x, by omega, rfl, rfl, rfl, hr, hx, rfl, Below.refl _ _⟩
 case round =>
  obtain ⟨i, r1, x1, hi, rfl, rfl, rfl, hr1, hx1, hT, hB⟩ := hrel
  by_cases hlt : i < 64
  ·have hlt' : (i : Int) < 64 := by omega
   have hl := stepN_lt r1 x1 hr1
   have hT2 : turnN (64 - (i + 1)) (stepN r1 x1) (x1 / 2) = turnN 64 r x := by
    rw [← hT.out, show 64 - i = (64 - (i + 1)) + 1 by omega]
    rfl
   replace hT2 := lh hT2
   clear hT
   have hodd : (r1 ^^^ x1) % 2 = (if r1 % 2 = x1 % 2 then 0 else 1) := by
    rw [show (r1 ^^^ x1) % 2 = (r1 % 2 ^^^ x1 % 2) from Nat.xor_mod_two_pow (n := 1)]
    have h1 : r1 % 2 = 0 ∨ r1 % 2 = 1 := by omega
    have h2 : x1 % 2 = 0 ∨ x1 % 2 = 1 := by omega
    rcases h1 with h1 | h1 <;> rcases h2 with h2 | h2 <;> rw [h1, h2] <;> decide
   by_cases h : r1 % 2 = x1 % 2
   ·have hs : stepN r1 x1 = r1 / 2 := by unfold stepN; rw [hodd, if_pos h]; rfl
    rw [hs] at hT2 hl
    have T : ((r1 : Int) % 2 == (x1 : Int) % 2) = true := by rw [beq_iff_eq]; omega
    clear hodd hs
    go_wp2_with fail
    go_roundw
    case rel => exact ⟨i + 1, r1 / 2, x1 / 2, by omega, by go_num, by go_num, by go_num, hl, by omega, hT2, hB⟩
    case measure => simp [intOf]; omega
   ·have hs : stepN r1 x1 = (r1 / 2) ^^^ 3988292384 := by unfold stepN; rw [hodd, if_neg h]; rfl
    rw [hs] at hT2 hl
    have T : ((r1 : Int) % 2 == (x1 : Int) % 2) = false := by rw [beq_eq_false_iff_ne]; omega
    have hX := lh (fun w => show Calls Tryz.prog 119 #[.int .u32 ((r1 : Int) / 2), .int .u32 3988292384] w fun e w' => e = .returned (.int .u32 ((r1 / 2) ^^^ 3988292384 : Nat)) ∧ Below w.heap.size w w' from by
     rw [show (r1 : Int) / 2 = ((r1 / 2 : Nat) : Int) by omega]
     exact refXor_any (r1 / 2) 3988292384 w (by omega) (by omega))
    clear hodd hs h
    generalize (r1 / 2) ^^^ 3988292384 = r2 at *
    go_wp2_with fail
    refine (hX.out _).mono ?_
    rintro e w2 ⟨rfl, hb2⟩
    go_wp2_with fail
    go_roundw
    case rel => exact ⟨i + 1, r2, x1 / 2, by omega, by go_num, rfl, by go_num, hl, by omega, hT2, hB.trans (hb2.mono hB.size)⟩
    case measure => simp [intOf]; omega
  ·obtain rfl : i = 64 := by omega
   have hT' : r1 = turnN 64 r x := hT.out
   replace hT' := lh hT'
   clear hT
   go_wp2_with fail
   go_ret
   exact ⟨by rw [← hT'.out]; rfl, hB⟩
end Go.Proofs.YtkdhdibjbabgfaaGreatDoor
end
section
namespace Go.Proofs.YtkdhdibjbabgfaaGreatDoor
open Go.RowKit
def SL (w : World) (v : Value) (l : List Nat) : Prop :=
 (l = [] ∧ ∃ sp cap, v = .slice sp 0 cap) ∨ ∃ g off cap, v = .slice (some ⟨g, off, none⟩) l.length cap ∧ g < w.heap.size ∧ l.length ≤ cap ∧ ∀ i, i < l.length → w.cell? ⟨g, off + i, none⟩ = some (.int .u64 (l.getD i 0 : Nat))
theorem SL.keep {w w1 : World} {v : Value} {l : List Nat} (h : SL w v l) (hb : Below w.heap.size w w1) : SL w1 v l := by
 rcases h with h | ⟨g, off, cap, hv, hg, hcap, hc⟩
 ·exact .inl h
 ·exact .inr ⟨g, off, cap, hv, Nat.lt_of_lt_of_le hg hb.size, hcap, fun i hi => by rw [(bcell hb).1 _ _ hg]; exact hc i hi⟩
def WL (l : List Nat) : Prop := ∀ x ∈ l, x < 18446744073709551616
theorem WL.at {l : List Nat} (h : WL l) (i : Nat) (hi : i < l.length) : l.getD i 0 < 18446744073709551616 := by
 rw [List.getD_eq_getElem?_getD, List.getElem?_eq_getElem hi]
 exact h _ (List.getElem_mem hi)
def foldT (r : Nat) (l : List Nat) : Nat := l.foldl (fun r x => turnN 64 r x) r
theorem foldT_step (r : Nat) (l : List Nat) (j : Nat) (h : j < l.length) : foldT r (l.take (j + 1)) = turnN 64 (foldT r (l.take j)) (l.getD j 0) := by
 unfold foldT
 rw [List.take_succ_eq_append_getElem h, List.foldl_append, List.getD_eq_getElem?_getD, List.getElem?_eq_getElem h]
 rfl
def moreN (s : Nat) (l : List Nat) : Nat := 4294967295 - foldT (4294967295 - s) l
theorem moreN_lt (s : Nat) (l : List Nat) : moreN s l < 4294967296 := by unfold moreN; omega
theorem refMore_any (s : Nat) (v : Value) (l : List Nat) (w : World) (hs : s < 4294967296) (hl : WL l) (hlen : l.length ≤ 1000) (hv : SL w v l) :
 Calls Tryz.prog 64 #[.int .u32 s, v] w fun e w' => e = .returned (.int .u32 (moreN s l : Nat)) ∧ Below w.heap.size w w' := by
 have hout := lh (show (moreN s l : Nat) = 4294967295 - foldT (4294967295 - s) l from rfl)
 rcases hv with ⟨rfl, sp, cap, rfl⟩ | ⟨g, off, cap, rfl, hg, hcap, hc⟩
 ·go_enter Tryz.func64, Tryz.ntmps64
  go_wp2_with fail
  go_loopw [5, 6] (fun a k wr => k = .int .i64 0 ∧ a = .int .u32 (4294967295 - s : Nat) ∧ Below w.heap.size w wr) (fun _ _ _ => 0)
  case atStart => exact ⟨rfl, by go_num, Below.refl _ _⟩
  case round =>
   obtain ⟨rfl, rfl, hB⟩ := hrel
   go_wp2_with fail
   go_ret
   exact ⟨by rw [hout.out, show foldT (4294967295 - s) [] = 4294967295 - s from rfl]; go_num, hB⟩
 ·have hC := lh hc
  clear hc
  go_enter Tryz.func64, Tryz.ntmps64
  go_wp2_with fail
  go_loopw [5, 6] (fun a k wr => ∃ i r1 : Nat, i ≤ l.length ∧ k = .int .i64 i ∧ a = .int .u32 r1 ∧ r1 < 4294967296 ∧ Hid (r1 = foldT (4294967295 - s) (l.take i)) ∧ Below w.heap.size w wr) (fun _ k _ => l.length + 1 - (intOf k).toNat)
  case atStart => exact ⟨0, 4294967295 - s, by omega, rfl, by go_num, by omega, rfl, Below.refl _ _⟩
  case round =>
   obtain ⟨i, r1, hi, rfl, rfl, hr1, hT, hB⟩ := hrel
   by_cases hlt : i < l.length
   ·have hlt' : (i : Int) < (l.length : Int) := by omega
    have hx := hl.at i hlt
    have hstep := lh (foldT_step (4294967295 - s) l i hlt)
    have hc : wr.cell? ⟨g, off + i, none⟩ = some (.int .u64 (l.getD i 0 : Nat)) := by rw [(bcell hB).1 _ _ hg]; exact hC.out i hlt
    have hO := lh (fun w => refOn_any r1 (l.getD i 0) w hr1 hx)
    generalize hy : l.getD i 0 = y at *
    go_wp2_with fail
    refine (hO.out _).mono ?_
    rintro e w2 ⟨rfl, hb2⟩
    go_wp2_with fail
    go_roundw
    case rel => exact ⟨i + 1, turnN 64 r1 y, by omega, by go_num, rfl, turnN_lt 64 r1 y hr1, by rw [hstep.out, ← hT.out]; rfl, hB.trans (hb2.mono hB.size)⟩
    case measure => simp [intOf]; omega
   ·obtain rfl : i = l.length := by omega
    have hT' : r1 = foldT (4294967295 - s) l := by rw [hT.out, List.take_of_length_le (Nat.le_refl _)]
    replace hT' := lh hT'
    clear hT
    go_wp2_with fail
    go_ret
    exact ⟨by rw [hout.out, ← hT'.out]; go_num, hB⟩
theorem not32 (s : Nat) (hs : s < 4294967296) : bits .xor .u32 IntKind.u32.max (s : Int) = ((4294967295 - s : Nat) : Int) := by
 rw [show IntKind.u32.max = ((4294967295 : Nat) : Int) by decide +kernel, u32_xor_nat _ _ (by omega) hs]
 congr 1
 apply Nat.eq_of_testBit_eq
 intro i
 rw [Nat.testBit_xor, show 4294967295 - s = 2 ^ 32 - (s + 1) by omega, Nat.testBit_two_pow_sub_succ (by omega), show (4294967295 : Nat) = 2 ^ 32 - 1 by decide, Nat.testBit_two_pow_sub_one]
 by_cases h : i < 32
 ·simp [h]
 ·have := Nat.testBit_lt_two_pow (Nat.lt_of_lt_of_le hs (show 4294967296 ≤ 2 ^ i from Nat.pow_le_pow_right (n := 2) (by omega) (show 32 ≤ i by omega)))
  simp [h, this]
theorem more_any (s : Nat) (v : Value) (l : List Nat) (w : World) (hs : s < 4294967296) (hl : WL l) (hlen : l.length ≤ 1000) (hv : SL w v l) :
 Calls Tryz.prog 143 #[.int .u32 s, v] w fun e w' => e = .returned (.int .u32 (moreN s l : Nat)) ∧ Below w.heap.size w w' := by
 have hout := lh (show (moreN s l : Nat) = 4294967295 - foldT (4294967295 - s) l from rfl)
 rcases hv with ⟨rfl, sp, cap, rfl⟩ | ⟨g, off, cap, rfl, hg, hcap, hc⟩
 ·go_enter Tryz.func143, Tryz.ntmps143
  go_wp2_with fail
  go_loopw [6, 14] (fun a k wr => k = .int .i64 0 ∧ a = .int .u32 (4294967295 - s : Nat) ∧ Below w.heap.size w wr) (fun _ _ _ => 0)
  case atStart => exact ⟨rfl, by rw [not32 s hs], bZ _ _⟩
  case round =>
   obtain ⟨rfl, rfl, hB⟩ := hrel
   go_wp2_with fail
   go_ret
   exact ⟨by rw [hout.out, show foldT (4294967295 - s) [] = 4294967295 - s from rfl, ← not32 (4294967295 - s) (by omega)]; rfl, hB⟩
 ·have hC := lh hc
  clear hc
  go_enter Tryz.func143, Tryz.ntmps143
  go_wp2_with fail
  go_loopw [6, 14] (fun a k wr => ∃ i r1 : Nat, i ≤ l.length ∧ k = .int .i64 i ∧ a = .int .u32 r1 ∧ r1 < 4294967296 ∧ Hid (r1 = foldT (4294967295 - s) (l.take i)) ∧ wr.cell? ⟨w.heap.size, 0, none⟩ = some (.func (.func 148) #[] #[.pointer (some ⟨w.heap.size, 0, none⟩)]) ∧ Below w.heap.size w wr) (fun _ k _ => l.length + 1 - (intOf k).toNat)
  case atStart => exact ⟨0, 4294967295 - s, by omega, rfl, by rw [not32 s hs], by omega, rfl, by simp [go_sem], bZ _ _⟩
  case round =>
   obtain ⟨i, r1, hi, rfl, rfl, hr1, hT, hcl, hB⟩ := hrel
   by_cases hlt : i < l.length
   ·have hlt' : (i : Int) < (l.length : Int) := by omega
    have hx := hl.at i hlt
    have hstep := lh (foldT_step (4294967295 - s) l i hlt)
    have hc : wr.cell? ⟨g, off + i, none⟩ = some (.int .u64 (l.getD i 0 : Nat)) := by rw [(bcell hB).1 _ _ hg]; exact hC.out i hlt
    have hO := lh (turn_any 64 r1 (l.getD i 0) wr w.heap.size (by omega) hr1 hx hcl)
    generalize hy : l.getD i 0 = y at *
    go_wp2_with fail
    refine hO.out.mono ?_
    rintro e w2 ⟨rfl, rfl⟩
    go_wp2_with fail
    go_roundw
    case rel => exact ⟨i + 1, turnN 64 r1 y, by omega, by go_num, rfl, turnN_lt 64 r1 y hr1, by rw [hstep.out, ← hT.out]; rfl, hcl, hB⟩
    case measure => simp [intOf]; omega
   ·obtain rfl : i = l.length := by omega
    have hT' : r1 = foldT (4294967295 - s) l := by rw [hT.out, List.take_of_length_le (Nat.le_refl _)]
    replace hT' := lh hT'
    clear hT
    go_wp2_with fail
    go_ret
    exact ⟨by rw [hout.out, ← hT'.out, ← not32 r1 hr1]; rfl, hB⟩
theorem of_any (v : Value) (l : List Nat) (w : World) (hl : WL l) (hlen : l.length ≤ 1000) (hv : SL w v l) :
 Calls Tryz.prog 133 #[v] w fun e w' => e = .returned (.int .u32 (moreN 0 l : Nat)) ∧ Below w.heap.size w w' := by
 have hM := lh (more_any 0 v l w (by omega) hl hlen hv)
 clear hv
 go_enter Tryz.func133, Tryz.ntmps133
 go_wp2_with fail
 refine hM.out.mono ?_
 rintro e w2 ⟨rfl, hb⟩
 go_wp2_with fail
 go_ret
 exact ⟨rfl, hb⟩
theorem refOf_any (v : Value) (l : List Nat) (w : World) (hl : WL l) (hlen : l.length ≤ 1000) (hv : SL w v l) :
 Calls Tryz.prog 36 #[v] w fun e w' => e = .returned (.int .u32 (moreN 0 l : Nat)) ∧ Below w.heap.size w w' := by
 have hM := lh (refMore_any 0 v l w (by omega) hl hlen hv)
 clear hv
 go_enter Tryz.func36, Tryz.ntmps36
 go_wp2_with fail
 refine hM.out.mono ?_
 rintro e w2 ⟨rfl, hb⟩
 go_wp2_with fail
 go_ret
 exact ⟨rfl, hb⟩
end Go.Proofs.YtkdhdibjbabgfaaGreatDoor
end
section
namespace Go.Proofs.YtkdhdibjbabgfaaGreatDoor
open Go.RowKit
def lowI (x m : Int) : Int := x % 2 ^ m.toNat
def getI (w a m : Int) : Int := ((getN w.toNat a.toNat m.toNat : Nat) : Int)
def putI (w a m v : Int) : Int := ((putN w.toNat a.toNat m.toNat v.toNat : Nat) : Int)
theorem fits_yes (a m : Int) (w : World) (h0 : 0 ≤ a) (h1 : 1 ≤ m) (h2 : m ≤ 64) (h3 : a ≤ 64 - m) :
 Calls Tryz.prog 121 #[.int .i64 a, .int .i64 m] w fun e w' => e = .returned (.bool true) ∧ w = w' := by
 go_enter Tryz.func121, Tryz.ntmps121
 go_wp2
 go_ret
 exact ⟨rfl, rfl⟩
theorem lowest_any (x m : Int) (w : World) (h0 : 0 ≤ x) (h1 : x < 18446744073709551616) (h2 : 0 ≤ m) (h : m ≤ 64) :
 Calls Tryz.prog 122 #[.int .u64 x, .int .i64 m] w fun e w' => e = .returned (.int .u64 (lowI x m)) ∧ w = w' := by
 by_cases h64 : m = 64
 ·subst h64
  go_enter Tryz.func122, Tryz.ntmps122
  go_wp2
  go_ret
  refine ⟨?_, rfl⟩
  show Ending.returned (.int .u64 x) = _
  unfold lowI
  rw [show ((64 : Int).toNat) = 64 from rfl, show ((2 : Int) ^ 64) = 18446744073709551616 from by decide, Int.emod_eq_of_lt h0 h1]
 ·have hlt : m < 64 := by omega
  go_enter Tryz.func122, Tryz.ntmps122
  go_wp2
  go_ret
  refine ⟨?_, rfl⟩
  rw [low_walk x m.toNat h0 h1 (by omega)]
  rfl
theorem get_yes (x a m : Int) (w : World) (h0 : 0 ≤ x) (h1 : x < 18446744073709551616) (ha : 0 ≤ a) (hm : 1 ≤ m) (h2 : m ≤ 64) (h3 : a ≤ 64 - m) :
 Calls Tryz.prog 94 #[.int .u64 x, .int .i64 a, .int .i64 m] w fun e w' => e = .returned (.int .u64 (getI x a m)) ∧ w = w' := by
 have h63 : a < 64 := by omega
 go_enter Tryz.func94, Tryz.ntmps94
 have hs := shr_bd x a.toNat h0 h1
 go_wp2_with (first | (go_at_call 121; refine (fits_yes _ _ _ ha hm h2 h3).mono ?_; rintro e w' ⟨rfl, rfl⟩) | (go_at_call 122; refine (lowest_any _ m _ hs.1 hs.2 (by omega) h2).mono ?_; rintro e w' ⟨rfl, rfl⟩))
 go_ret
 refine ⟨?_, rfl⟩
 show Ending.returned (.int .u64 (lowI (x / 2 ^ a.toNat) m)) = _
 unfold lowI getI getN
 obtain ⟨X, rfl⟩ := Int.eq_ofNat_of_zero_le h0
 rw [Int.natCast_emod, Int.natCast_ediv, Int.natCast_pow, Int.natCast_pow]
 rfl
theorem put_yes (x a m v : Int) (w : World) (h0 : 0 ≤ x) (h1 : x < 18446744073709551616) (ha : 0 ≤ a) (hm : 1 ≤ m) (h2 : m ≤ 64) (h3 : a ≤ 64 - m) (hv0 : 0 ≤ v) (hv1 : v < 18446744073709551616) :
 Calls Tryz.prog 113 #[.int .u64 x, .int .i64 a, .int .i64 m, .int .u64 v] w fun e w' => e = .returned (.int .u64 (putI x a m v)) ∧ w = w' := by
 have h63 : a < 64 := by omega
 go_enter Tryz.func113, Tryz.ntmps113
 go_wp2_with (first | (go_at_call 121; refine (fits_yes _ _ _ ha hm h2 h3).mono ?_; rintro e w' ⟨rfl, rfl⟩) | (go_at_call 122; refine (lowest_any _ m _ (by omega) (by omega) (by omega) h2).mono ?_; rintro e w' ⟨rfl, rfl⟩))
 go_ret
 refine ⟨?_, rfl⟩
 show Ending.returned (.int .u64 (bits BinOp.or IntKind.u64 (bits BinOp.andNot IntKind.u64 x (IntKind.u64.wrap (lowI 18446744073709551615 m * 2 ^ a.toNat))) (IntKind.u64.wrap (lowI v m * 2 ^ a.toNat)))) = _
 unfold lowI putI
 rw [put_walk x v a.toNat m.toNat h0 h1 hv0 (by omega)]
theorem getI_bd (x a m : Int) (h0 : 0 ≤ x) (h1 : x < 18446744073709551616) : 0 ≤ getI x a m ∧ getI x a m < 18446744073709551616 := by
 unfold getI getN
 have h2 : x.toNat / 2 ^ a.toNat % 2 ^ m.toNat ≤ x.toNat := Nat.le_trans (Nat.mod_le _ _) (Nat.div_le_self _ _)
 omega
end Go.Proofs.YtkdhdibjbabgfaaGreatDoor
end
section
namespace Go.Proofs.YtkdhdibjbabgfaaGreatDoor
def swL (d : List Nat) (i j : Nat) : List Nat := (d.set i (d.getD j 0)).set j (d.getD i 0)
theorem getD_set_ {d : List Nat} {i k x : Nat} (hi : i < d.length) : (d.set i x).getD k 0 = if k = i then x else d.getD k 0 := by
 rw [List.getD_eq_getElem?_getD, List.getD_eq_getElem?_getD, List.getElem?_set]
 by_cases h : i = k
 ·subst h; rw [if_pos rfl, if_pos rfl, if_pos hi]; rfl
 ·rw [if_neg h, if_neg (fun e => h e.symm)]
theorem swL_len (d : List Nat) (i j : Nat) : (swL d i j).length = d.length := by unfold swL; rw [List.length_set, List.length_set]
theorem swL_at {d : List Nat} {i j : Nat} (hi : i < d.length) (hj : j < d.length) (k : Nat) : (swL d i j).getD k 0 = if k = j then d.getD i 0 else if k = i then d.getD j 0 else d.getD k 0 := by
 unfold swL
 rw [getD_set_ (by rw [List.length_set]; exact hj), getD_set_ hi]
theorem count_set {d : List Nat} {i x : Nat} (hi : i < d.length) (z : Nat) : (d.set i x).count z + (if d.getD i 0 = z then 1 else 0) = d.count z + (if x = z then 1 else 0) := by
 induction d generalizing i with
 | nil => simp at hi
 | cons y d ih =>
   cases i with
   | zero =>
     rw [List.set_cons_zero, List.count_cons, List.count_cons, List.getD_cons_zero]
     simp only [beq_iff_eq]
     by_cases h1 : x = z <;> by_cases h2 : y = z <;> simp [h1, h2]
   | succ i =>
     rw [List.set_cons_succ, List.count_cons, List.count_cons, List.getD_cons_succ]
     have := ih (by simpa using hi)
     omega
theorem swL_perm {d : List Nat} {i j : Nat} (hi : i < d.length) (hj : j < d.length) : (swL d i j).Perm d := by
 rw [List.perm_iff_count]
 intro z
 unfold swL
 have h1 := count_set (d := d) (i := i) (x := d.getD j 0) hi z
 have h2 := count_set (d := d.set i (d.getD j 0)) (i := j) (x := d.getD i 0) (by rw [List.length_set]; exact hj) z
 rw [getD_set_ hi] at h2
 by_cases e : j = i
 ·subst e; rw [if_pos rfl] at h2; omega
 ·rw [if_neg e] at h2; omega
structure Mv (lo hi : Nat) (d e : List Nat) : Prop where
 len : e.length = d.length
 perm : e.Perm d
 out : ∀ i, ¬ (lo ≤ i ∧ i < hi) → e.getD i 0 = d.getD i 0
 inn : ∀ i, lo ≤ i → i < hi → ∃ j, lo ≤ j ∧ j < hi ∧ e.getD i 0 = d.getD j 0
theorem Mv.refl (lo hi : Nat) (d : List Nat) : Mv lo hi d d := ⟨rfl, List.Perm.refl _, fun _ _ => rfl, fun i h1 h2 => ⟨i, h1, h2, rfl⟩⟩
theorem Mv.trans {lo hi : Nat} {d e f : List Nat} (h : Mv lo hi d e) (g : Mv lo hi e f) : Mv lo hi d f :=
 ⟨g.len.trans h.len, g.perm.trans h.perm, fun i hi => (g.out i hi).trans (h.out i hi), fun i h1 h2 => by
   obtain ⟨j, j1, j2, e1⟩ := g.inn i h1 h2
   obtain ⟨k, k1, k2, e2⟩ := h.inn j j1 j2
   exact ⟨k, k1, k2, e1.trans e2⟩⟩
theorem Mv.wide {lo hi lo2 hi2 : Nat} {d e : List Nat} (h : Mv lo hi d e) (h1 : lo2 ≤ lo) (h2 : hi ≤ hi2) : Mv lo2 hi2 d e :=
 ⟨h.len, h.perm, fun i hi => h.out i (by omega), fun i j1 j2 => by
   by_cases q : lo ≤ i ∧ i < hi
   ·obtain ⟨j, a, b, c⟩ := h.inn i q.1 q.2
    exact ⟨j, by omega, by omega, c⟩
   ·exact ⟨i, j1, j2, h.out i q⟩⟩
theorem Mv.swap {lo hi i j : Nat} {d : List Nat} (h1 : lo ≤ i) (h2 : i < hi) (h3 : lo ≤ j) (h4 : j < hi) (hl : hi ≤ d.length) : Mv lo hi d (swL d i j) := by
 refine ⟨swL_len _ _ _, swL_perm (by omega) (by omega), fun k hk => ?_, fun k k1 k2 => ?_⟩
 ·rw [swL_at (by omega) (by omega), if_neg (by omega), if_neg (by omega)]
 ·rw [swL_at (by omega) (by omega)]
  by_cases e1 : k = j
  ·rw [if_pos e1]; exact ⟨i, h1, h2, rfl⟩
  ·rw [if_neg e1]
   by_cases e2 : k = i
   ·rw [if_pos e2]; exact ⟨j, h3, h4, rfl⟩
   ·rw [if_neg e2]; exact ⟨k, k1, k2, rfl⟩
def Srt (g : Nat → Int) (d : List Nat) (lo hi : Nat) : Prop := ∀ i j, lo ≤ i → i < j → j < hi → g (d.getD i 0) < g (d.getD j 0)
def Lss (g : Nat → Int) (d : List Nat) (lo hi lo2 hi2 : Nat) : Prop := ∀ i j, lo ≤ i → i < hi → lo2 ≤ j → j < hi2 → g (d.getD i 0) < g (d.getD j 0)
theorem Srt.join {g : Nat → Int} {d : List Nat} {lo mid hi : Nat} (h1 : Srt g d lo mid) (h2 : Srt g d mid hi) (h : Lss g d lo mid mid hi) : Srt g d lo hi := by
 intro i j a b c
 by_cases q : j < mid
 ·exact h1 i j a b q
 ·by_cases q2 : i < mid
  ·exact h i j a q2 (by omega) c
  ·exact h2 i j (by omega) b c
theorem Srt.mono {g : Nat → Int} {d : List Nat} {lo hi lo2 hi2 : Nat} (h : Srt g d lo hi) (h1 : lo ≤ lo2) (h2 : hi2 ≤ hi) : Srt g d lo2 hi2 := fun i j a b c => h i j (by omega) b (by omega)
theorem Srt.same {g : Nat → Int} {d e : List Nat} {lo hi : Nat} (h : Srt g d lo hi) (hs : ∀ i, lo ≤ i → i < hi → e.getD i 0 = d.getD i 0) : Srt g e lo hi := fun i j a b c => by
 rw [hs i a (by omega), hs j (by omega) c]; exact h i j a b c
theorem Srt.short {g : Nat → Int} {d : List Nat} {lo hi : Nat} (h : hi ≤ lo + 1) : Srt g d lo hi := fun i j a b c => by omega
theorem Lss.mv1 {g : Nat → Int} {d e : List Nat} {lo mid hi : Nat} (h : Lss g d lo mid mid hi) (m : Mv lo mid d e) : Lss g e lo mid mid hi := fun i j a b c k => by
 obtain ⟨i', q1, q2, e1⟩ := m.inn i a b
 rw [e1, m.out j (by omega)]
 exact h i' j q1 q2 c k
theorem Lss.mv2 {g : Nat → Int} {d e : List Nat} {lo mid hi : Nat} (h : Lss g d lo mid mid hi) (m : Mv mid hi d e) : Lss g e lo mid mid hi := fun i j a b c k => by
 obtain ⟨j', q1, q2, e1⟩ := m.inn j c k
 rw [e1, m.out i (by omega)]
 exact h i j' a b q1 q2
def swF (d : List Nat) (x y n : Nat) (k : Nat) : Nat := if x ≤ k ∧ k < x + n then d.getD (k - x + y) 0 else if y ≤ k ∧ k < y + n then d.getD (k - y + x) 0 else d.getD k 0
def SwR (d e : List Nat) (x y n : Nat) : Prop := e.length = d.length ∧ ∀ k, e.getD k 0 = swF d x y n k
theorem SwR.zero (d : List Nat) (x y : Nat) : SwR d d x y 0 := ⟨rfl, fun k => by unfold swF; rw [if_neg (by omega), if_neg (by omega)]⟩
theorem SwR.step {d e : List Nat} {x y n : Nat} (h : SwR d e x y n) (hx : x + n < y) (hy : y + n < d.length) : SwR d (swL e (x + n) (y + n)) x y (n + 1) := by
 obtain ⟨h1, h2⟩ := h
 refine ⟨by rw [swL_len, h1], fun k => ?_⟩
 rw [swL_at (by omega) (by omega), h2, h2, h2]
 unfold swF
 by_cases e1 : k = y + n
 ·subst e1
  rw [if_pos rfl, if_neg (by omega), if_neg (by omega), if_neg (by omega), if_pos (by omega)]
  congr 1; omega
 ·rw [if_neg e1]
  by_cases e2 : k = x + n
  ·subst e2
   rw [if_pos rfl, if_neg (by omega), if_neg (by omega), if_pos (by omega)]
   congr 1; omega
  ·rw [if_neg e2]
   by_cases q1 : x ≤ k ∧ k < x + n
   ·rw [if_pos q1, if_pos (by omega)]
   ·by_cases q2 : y ≤ k ∧ k < y + n
    ·rw [if_neg q1, if_pos q2, if_neg (by omega), if_pos (by omega)]
    ·rw [if_neg q1, if_neg q2, if_neg (by omega), if_neg (by omega)]
def rotF (d : List Nat) (lo m hi : Nat) (k : Nat) : Nat := if lo ≤ k ∧ k < hi then (if k < lo + (hi - m) then d.getD (k - lo + m) 0 else d.getD (k - (hi - m)) 0) else d.getD k 0
theorem rot_left {d e : List Nat} {lo m hi : Nat} (h : SwR d e lo m (hi - m)) (h1 : hi - m < m - lo) (h2 : m ≤ hi) (k : Nat) : rotF e (lo + (hi - m)) m hi k = rotF d lo m hi k := by
 have q := h.2
 unfold rotF
 by_cases k1 : lo ≤ k ∧ k < hi
 ·by_cases k2 : k < lo + (hi - m)
  ·rw [if_neg (by omega), if_pos k1, if_pos k2, q]
   unfold swF
   rw [if_pos (by omega)]
  ·rw [if_pos (by omega), if_pos k1, if_neg k2]
   by_cases k3 : k < lo + (hi - m) + (hi - m)
   ·rw [if_pos k3, q]
    unfold swF
    rw [if_neg (by omega), if_pos (by omega)]
    congr 1; omega
   ·rw [if_neg k3, q]
    unfold swF
    rw [if_neg (by omega), if_neg (by omega)]
 ·rw [if_neg (by omega), if_neg k1, q]
  unfold swF
  rw [if_neg (by omega), if_neg (by omega)]
theorem rot_right {d e : List Nat} {lo m hi : Nat} (h : SwR d e lo (hi - (m - lo)) (m - lo)) (h1 : m - lo < hi - m) (h2 : lo ≤ m) (k : Nat) : rotF e lo m (hi - (m - lo)) k = rotF d lo m hi k := by
 have q := h.2
 unfold rotF
 by_cases k1 : lo ≤ k ∧ k < hi
 ·by_cases k2 : k < hi - (m - lo)
  ·rw [if_pos (by omega), if_pos k1]
   by_cases k3 : k < lo + (hi - (m - lo) - m)
   ·rw [if_pos k3, if_pos (by omega), q]
    unfold swF
    rw [if_neg (by omega), if_neg (by omega)]
   ·rw [if_neg k3, if_pos (by omega), q]
    unfold swF
    rw [if_pos (by omega)]
    congr 1; omega
  ·rw [if_neg (by omega), if_pos k1, q, if_neg (by omega)]
   unfold swF
   rw [if_neg (by omega), if_pos (by omega)]
   congr 1; omega
 ·rw [if_neg (by omega), if_neg k1, q]
  unfold swF
  rw [if_neg (by omega), if_neg (by omega)]
theorem rot_even {d e : List Nat} {lo m hi : Nat} (h : SwR d e lo m (m - lo)) (h1 : m - lo = hi - m) (h2 : lo ≤ m) (h3 : m ≤ hi) (k : Nat) : e.getD k 0 = rotF d lo m hi k := by
 rw [h.2]
 unfold swF rotF
 by_cases k1 : lo ≤ k ∧ k < hi
 ·rw [if_pos k1]
  by_cases k2 : k < lo + (hi - m)
  ·rw [if_pos (by omega), if_pos k2]
  ·rw [if_neg (by omega), if_pos (by omega), if_neg k2]
   congr 1; omega
 ·rw [if_neg (by omega), if_neg (by omega), if_neg k1]
def nI (x : Nat) : Int := x
structure Key (N : Nat) (f g : Nat → Int) : Prop where
 lt : ∀ x y, y < x → x < N → f x < f y → g x < g y
 ge : ∀ x y, y < x → x < N → ¬ f x < f y → g y < g x
theorem key_mk (N : Nat) (f : Nat → Int) : Key N f (fun x => f x * N + x) := by
 refine ⟨fun x y h hx hf => ?_, fun x y h hx hf => ?_⟩
 ·have h1 : f x + 1 ≤ f y := by omega
  have h2 : (f x + 1) * (N : Int) ≤ f y * N := Int.mul_le_mul_of_nonneg_right h1 (by omega)
  rw [Int.add_mul] at h2
  show f x * N + x < f y * N + y
  omega
 ·have h1 : f y ≤ f x := by omega
  have h2 : f y * (N : Int) ≤ f x * N := Int.mul_le_mul_of_nonneg_right h1 (by omega)
  show f y * N + y < f x * N + x
  omega
structure Cut (g : Nat → Int) (d : List Nat) (a m b s0 r0 start e : Nat) : Prop where
 am : a < m
 mb : m < b
 bd : a ≤ s0 ∧ s0 ≤ start ∧ start ≤ r0 ∧ r0 ≤ m ∧ r0 ≤ (a + b) / 2 ∧ (a + b) / 2 + m ≤ s0 + b
 rr : r0 = m ∨ r0 = (a + b) / 2
 ss : s0 = a ∨ s0 + b = (a + b) / 2 + m
 ee : e + start = (a + b) / 2 + m
 lo : ∀ c, s0 ≤ c → c < start → g (d.getD c 0) < g (d.getD ((a + b) / 2 + m - 1 - c) 0)
 hi : ∀ c, start ≤ c → c < r0 → g (d.getD ((a + b) / 2 + m - 1 - c) 0) < g (d.getD c 0)
theorem rotF_a {d : List Nat} {lo m hi k : Nat} (h : ¬ (lo ≤ k ∧ k < hi)) : rotF d lo m hi k = d.getD k 0 := by unfold rotF; rw [if_neg h]
theorem rotF_b {d : List Nat} {lo m hi k : Nat} (h : lo ≤ k) (h2 : k < lo + (hi - m)) (h3 : lo ≤ m) (h4 : m ≤ hi) : rotF d lo m hi k = d.getD (k - lo + m) 0 := by unfold rotF; rw [if_pos (by omega), if_pos h2]
theorem rotF_c {d : List Nat} {lo m hi k : Nat} (h : lo + (hi - m) ≤ k) (h2 : k < hi) (h3 : lo ≤ m) (h4 : m ≤ hi) : rotF d lo m hi k = d.getD (k - (hi - m)) 0 := by unfold rotF; rw [if_pos (by omega), if_neg (by omega)]
theorem Cut.left {g k : Nat → Int} {d e : List Nat} {a m b s0 r0 start en : Nat} (c : Cut g d a m b s0 r0 start en) (h2 : Lss k d a m m b) (hr : ∀ i, e.getD i 0 = rotF d start m en i) : Lss k e a start start ((a + b) / 2) := by
 have hs0 := c.bd; have he := c.ee; have h3 := c.am; have h4 := c.mb
 intro i j i1 i2 j1 j2
 rw [hr, hr, rotF_a (by omega), rotF_b (by omega) (by omega) (by omega) (by omega)]
 exact h2 _ _ (by omega) (by omega) (by omega) (by omega)
theorem Cut.right {g k : Nat → Int} {d e : List Nat} {a m b s0 r0 start en : Nat} (c : Cut g d a m b s0 r0 start en) (h2 : Lss k d a m m b) (hr : ∀ i, e.getD i 0 = rotF d start m en i) : Lss k e ((a + b) / 2) en en b := by
 have hs0 := c.bd; have he := c.ee; have h3 := c.am; have h4 := c.mb
 intro i j i1 i2 j1 j2
 rw [hr, hr, rotF_c (by omega) (by omega) (by omega) (by omega), rotF_a (by omega)]
 exact h2 _ _ (by omega) (by omega) (by omega) (by omega)
theorem Cut.srt {g : Nat → Int} {d e : List Nat} {a m b s0 r0 start en : Nat} (c : Cut g d a m b s0 r0 start en) (l : Srt g d a m) (r : Srt g d m b) (hr : ∀ i, e.getD i 0 = rotF d start m en i) :
 Srt g e a start ∧ Srt g e start ((a + b) / 2) ∧ Srt g e ((a + b) / 2) en ∧ Srt g e en b := by
 have hs0 := c.bd; have he := c.ee; have h3 := c.am; have h4 := c.mb
 refine ⟨fun i j i1 i2 i3 => ?_, fun i j i1 i2 i3 => ?_, fun i j i1 i2 i3 => ?_, fun i j i1 i2 i3 => ?_⟩
 ·rw [hr, hr, rotF_a (by omega), rotF_a (by omega)]; exact l _ _ (by omega) (by omega) (by omega)
 ·rw [hr, hr, rotF_b (by omega) (by omega) (by omega) (by omega), rotF_b (by omega) (by omega) (by omega) (by omega)]; exact r _ _ (by omega) (by omega) (by omega)
 ·rw [hr, hr, rotF_c (by omega) (by omega) (by omega) (by omega), rotF_c (by omega) (by omega) (by omega) (by omega)]; exact l _ _ (by omega) (by omega) (by omega)
 ·rw [hr, hr, rotF_a (by omega), rotF_a (by omega)]; exact r _ _ (by omega) (by omega) (by omega)
theorem le_of_srt {g : Nat → Int} {d : List Nat} {lo hi i j : Nat} (h : Srt g d lo hi) (h1 : lo ≤ i) (h2 : i ≤ j) (h3 : j < hi) : g (d.getD i 0) ≤ g (d.getD j 0) := by
 by_cases e : i = j
 ·subst e; exact Int.le_refl _
 ·exact Int.le_of_lt (h i j h1 (by omega) h3)
theorem Cut.mid {g : Nat → Int} {d e : List Nat} {a m b s0 r0 start en : Nat} (c : Cut g d a m b s0 r0 start en) (l : Srt g d a m) (r : Srt g d m b) (hr : ∀ i, e.getD i 0 = rotF d start m en i) :
 Lss g e a ((a + b) / 2) ((a + b) / 2) b := by
 have hs0 := c.bd; have he := c.ee; have h3 := c.am; have h4 := c.mb; have hr0 := c.rr; have hs1 := c.ss
 intro i j i1 i2 j1 j2
 rw [hr, hr]
 by_cases q1 : i < start
 ·rw [rotF_a (by omega)]
  by_cases q2 : j < en
  ·rw [rotF_c (by omega) (by omega) (by omega) (by omega)]
   exact l _ _ (by omega) (by omega) (by omega)
  ·rw [rotF_a (by omega)]
   -- a beginning of the left one against an end of the right one
   have hgt : s0 < start ∨ s0 = start := by omega
   rcases hgt with hgt | hgt
   ·have k1 := c.lo (start - 1) (by omega) (by omega)
    have e1 : (a + b) / 2 + m - 1 - (start - 1) = en := by omega
    rw [e1] at k1
    have k2 := le_of_srt l (i := i) (j := start - 1) (by omega) (by omega) (by omega)
    have k3 := le_of_srt r (i := en) (j := j) (by omega) (by omega) (by omega)
    omega
   ·rcases hs1 with hs1 | hs1
    ·omega
    ·omega
 ·rw [rotF_b (by omega) (by omega) (by omega) (by omega)]
  by_cases q2 : j < en
  ·rw [rotF_c (by omega) (by omega) (by omega) (by omega)]
   have hgt : start < r0 ∨ start = r0 := by omega
   rcases hgt with hgt | hgt
   ·have k1 := c.hi start (by omega) hgt
    have k2 := le_of_srt l (i := start) (j := j - (en - m)) (by omega) (by omega) (by omega)
    have k3 := le_of_srt r (i := i - start + m) (j := (a + b) / 2 + m - 1 - start) (by omega) (by omega) (by omega)
    omega
   ·omega
  ·rw [rotF_a (by omega)]
   exact r _ _ (by omega) (by omega) (by omega)
theorem find_lo {g : Nat → Int} {d : List Nat} {a m b s0 c p : Nat} (l : Srt g d a m) (r : Srt g d m b) (h : g (d.getD c 0) < g (d.getD (p - c) 0)) (h1 : a ≤ s0) (h2 : c < m) (h3 : p < s0 + b) (h4 : m + c ≤ p) :
 ∀ k, s0 ≤ k → k < c + 1 → g (d.getD k 0) < g (d.getD (p - k) 0) := fun k k1 k2 => by
 have q1 := le_of_srt l (i := k) (j := c) (by omega) (by omega) (by omega)
 have q2 := le_of_srt r (i := p - c) (j := p - k) (by omega) (by omega) (by omega)
 omega
theorem find_hi {g : Nat → Int} {d : List Nat} {a m b s0 c p r0 : Nat} (l : Srt g d a m) (r : Srt g d m b) (h : g (d.getD (p - c) 0) < g (d.getD c 0)) (h1 : a ≤ s0) (h2 : s0 ≤ c) (h3 : p < s0 + b) (h4 : r0 ≤ m) (h5 : m + r0 ≤ p + 1) :
 ∀ k, c ≤ k → k < r0 → g (d.getD (p - k) 0) < g (d.getD k 0) := fun k k1 k2 => by
 have q1 := le_of_srt l (i := c) (j := k) (by omega) (by omega) (by omega)
 have q2 := le_of_srt r (i := p - k) (j := p - c) (by omega) (by omega) (by omega)
 omega
theorem Srt.mv {g : Nat → Int} {d e : List Nat} {lo hi lo2 hi2 : Nat} (h : Srt g d lo2 hi2) (m : Mv lo hi d e) (ho : hi ≤ lo2 ∨ hi2 ≤ lo) : Srt g e lo2 hi2 := h.same fun i i1 i2 => m.out i (by omega)
theorem Lss.mvA {g : Nat → Int} {d e : List Nat} {lo hi lo1 hi1 lo2 hi2 : Nat} (h : Lss g d lo1 hi1 lo2 hi2) (m : Mv lo hi d e) (h1 : (hi ≤ lo1 ∨ hi1 ≤ lo) ∨ (lo1 ≤ lo ∧ hi ≤ hi1)) (h2 : (hi ≤ lo2 ∨ hi2 ≤ lo) ∨ (lo2 ≤ lo ∧ hi ≤ hi2)) : Lss g e lo1 hi1 lo2 hi2 := fun i j i1 i2 j1 j2 => by
 have q1 : ∃ i', lo1 ≤ i' ∧ i' < hi1 ∧ e.getD i 0 = d.getD i' 0 := by
  by_cases q : lo ≤ i ∧ i < hi
  ·obtain ⟨i', a, b, c⟩ := m.inn i q.1 q.2
   exact ⟨i', by omega, by omega, c⟩
  ·exact ⟨i, i1, i2, m.out i q⟩
 have q2 : ∃ j', lo2 ≤ j' ∧ j' < hi2 ∧ e.getD j 0 = d.getD j' 0 := by
  by_cases q : lo ≤ j ∧ j < hi
  ·obtain ⟨j', a, b, c⟩ := m.inn j q.1 q.2
   exact ⟨j', by omega, by omega, c⟩
  ·exact ⟨j, j1, j2, m.out j q⟩
 obtain ⟨i', a1, a2, a3⟩ := q1
 obtain ⟨j', b1, b2, b3⟩ := q2
 rw [a3, b3]
 exact h i' j' a1 a2 b1 b2
def insF (d : List Nat) (i j k : Nat) : Nat := if k = j then d.getD i 0 else if j < k ∧ k ≤ i then d.getD (k - 1) 0 else d.getD k 0
structure Ins (d e : List Nat) (a i j : Nat) : Prop where
 at_ : ∀ k, e.getD k 0 = insF d i j k
 mv : Mv a (i + 1) d e
theorem Ins.start (d : List Nat) (a i : Nat) : Ins d d a i i := ⟨fun k => by
 unfold insF
 by_cases h : k = i
 ·rw [if_pos h, h]
 ·rw [if_neg h, if_neg (by omega)], Mv.refl _ _ _⟩
theorem Ins.step {d e : List Nat} {a i j : Nat} (h : Ins d e a i (j + 1)) (ha : a ≤ j) (hj : j + 1 ≤ i) (hi : i < d.length) : Ins d (swL e (j + 1) j) a i j := by
 have hl := h.mv.len
 refine ⟨fun k => ?_, h.mv.trans (Mv.swap (by omega) (by omega) (by omega) (by omega) (by omega))⟩
 rw [swL_at (by omega) (by omega), h.at_, h.at_, h.at_]
 unfold insF
 by_cases e1 : k = j
 ·subst e1
  rw [if_pos rfl, if_pos rfl, if_pos rfl]
 ·rw [if_neg e1, if_neg e1]
  by_cases e2 : k = j + 1
  ·subst e2
   rw [if_pos rfl, if_neg (by omega), if_neg (by omega), if_pos (by omega)]
   congr 1
  ·rw [if_neg e2, if_neg e2]
   by_cases q : j + 1 < k ∧ k ≤ i
   ·rw [if_pos q, if_pos (by omega)]
   ·rw [if_neg q, if_neg (by omega)]
theorem Ins.done {g : Nat → Int} {d e : List Nat} {a i j : Nat} (h : Ins d e a i j) (hs : Srt g d a i) (hj : a ≤ j) (hji : j ≤ i) (h1 : j = a ∨ g (d.getD (j - 1) 0) < g (d.getD i 0)) (h2 : ∀ q, j ≤ q → q < i → g (d.getD i 0) < g (d.getD q 0)) : Srt g e a (i + 1) := by
 intro p q p1 p2 p3
 rw [h.at_, h.at_]
 unfold insF
 by_cases e1 : p = j
 ·subst e1
  rw [if_pos rfl, if_neg (by omega), if_pos (by omega)]
  exact h2 _ (by omega) (by omega)
 ·rw [if_neg e1]
  by_cases e2 : q = j
  ·subst e2
   rw [if_pos rfl, if_neg (by omega)]
   rcases h1 with h1 | h1
   ·omega
   ·have := le_of_srt hs (i := p) (j := q - 1) p1 (by omega) (by omega)
    omega
  ·rw [if_neg e2]
   by_cases k1 : j < p ∧ p ≤ i
   ·rw [if_pos k1, if_pos (by omega)]
    exact hs _ _ (by omega) (by omega) (by omega)
   ·rw [if_neg k1]
    by_cases k2 : j < q ∧ q ≤ i
    ·rw [if_pos k2]
     by_cases k3 : p = q - 1
     ·omega
     ·exact hs _ _ (by omega) (by omega) (by omega)
    ·rw [if_neg k2]
     exact hs _ _ (by omega) (by omega) (by omega)
theorem Ins.below {g : Nat → Int} {d : List Nat} {i j : Nat} (h : g (d.getD i 0) < g (d.getD j 0)) (h2 : ∀ q, j + 1 ≤ q → q < i → g (d.getD i 0) < g (d.getD q 0)) : ∀ q, j ≤ q → q < i → g (d.getD i 0) < g (d.getD q 0) := fun q q1 q2 => by
 by_cases e : q = j
 ·subst e; exact h
 ·exact h2 q (by omega) q2
theorem srt_pair {g : Nat → Int} {d : List Nat} (h : Srt g d 0 d.length) : d.Pairwise (fun x y => g x < g y) := by
 rw [List.pairwise_iff_getElem]
 intro i j hi hj hij
 have := h i j (by omega) hij hj
 rwa [List.getD_eq_getElem?_getD, List.getD_eq_getElem?_getD, List.getElem?_eq_getElem hi, List.getElem?_eq_getElem hj] at this
theorem asc_lss {d : List Nat} {lo mid hi : Nat} (h : Srt nI d lo hi) : Lss nI d lo mid mid hi := fun i j a b c k => h i j a (by omega) k
theorem nI_lt {d : List Nat} {i j : Nat} (h : nI (d.getD i 0) < nI (d.getD j 0)) : d.getD i 0 < d.getD j 0 := by unfold nI at h; omega
end Go.Proofs.YtkdhdibjbabgfaaGreatDoor
end
