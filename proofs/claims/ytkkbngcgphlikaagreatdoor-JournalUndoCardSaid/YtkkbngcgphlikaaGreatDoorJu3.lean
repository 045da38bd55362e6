/-
  Part of the proof of JournalUndo.
-/
import Derived.Test.YtkkbngcgphlikaaGreatDoorJu1
import Derived.Laws.EntriesVeiled
import Derived.Deep.RegionHeld3
import Derived.Laws.CopyOwn
import Derived.Test.YtkkbngcgphlikaaGreatDoorJu0
set_option maxRecDepth 10000
set_option maxHeartbeats 2000000
set_option linter.unusedVariables false
set_option linter.unusedSimpArgs false
section
namespace Go.Proofs.YtkkbngcgphlikaaGreatDoor
open Go.RowKit
theorem bit_div (a p i : Nat) (hp : p = 2 ^ i) : a / p % 2 = (if a.testBit i then 1 else 0) := by
 subst hp
 rw [Nat.testBit_eq_decide_div_mod_eq]
 by_cases h : a / 2 ^ i % 2 = 1
 ·simp [h]
 simp [h]; omega
def pow31 (i : Nat) : Nat := if i < 31 then 2 ^ i else 2147483648
theorem pow31_bd (i : Nat) : 1 ≤ pow31 i ∧ pow31 i ≤ 2147483648 := by
 unfold pow31
 split
 ·rename_i h
  have := Nat.pow_le_pow_right (by omega : 2 > 0) (show i ≤ 31 by omega)
  have := Nat.one_le_two_pow (n := i)
  omega
 omega
theorem pow31_at (i : Nat) (h : i < 32) : pow31 i = 2 ^ i := by
 unfold pow31
 by_cases h2 : i < 31
 ·rw [if_pos h2]
 obtain rfl : i = 31 := by omega
 rfl
theorem pow31_next (i : Nat) (h : i < 31) : 2 * pow31 i = pow31 (i + 1) := by
 rw [pow31_at i (by omega), pow31_at (i + 1) (by omega), Nat.pow_succ, Nat.mul_comm]
theorem refXor_any (a b : Nat) (w : World) (ha : a < 4294967296) (hb : b < 4294967296) :
 Calls Tryz.prog 191 #[.int .u32 a, .int .u32 b] w fun e w' => e = .returned (.int .u32 (a ^^^ b : Nat)) ∧ Below w.heap.size w w' := by
 have hx : a ^^^ b < 4294967296 := xor_lt32 ha hb
 go_enter Tryz.func191, Tryz.ntmps191
 go_wp2_with fail
 go_loopw [5, 6, 7] (fun n p k wr => ∃ i : Nat, i ≤ 32 ∧ k = .int .i64 i ∧ n = .int .u32 ((a ^^^ b) % 2 ^ i : Nat) ∧ p = .int .u32 (pow31 i : Nat) ∧ Below w.heap.size w wr) (fun _ _ k _ => 33 - (intOf k).toNat)
 case atStart => exact ⟨0, by omega, rfl, by simp [Nat.mod_one], rfl, Below.refl _ _⟩
 obtain ⟨i, hi, rfl, rfl, rfl, hB⟩ := hrel
 by_cases hlt : i < 32
 rotate_left
 ·obtain rfl : i = 32 := by omega
  rw [Nat.mod_eq_of_lt (show a ^^^ b < 2 ^ 32 from hx)]
  go_wp2_with fail
  go_ret
  exact ⟨rfl, hB⟩
 have hstep := mod_step (a ^^^ b) i
 have hlast : (a ^^^ b) % 2 ^ (i + 1) ≤ a ^^^ b := Nat.mod_le _ _
 have hpa := pow31_at i hlt
 obtain ⟨p1, p2⟩ := pow31_bd i
 obtain ⟨_, p4⟩ := pow31_bd (i + 1)
 have da := bit_div a (pow31 i) i hpa
 have db := bit_div b (pow31 i) i hpa
 have hn : 31 ≤ i → pow31 (i + 1) = pow31 i := fun h => by unfold pow31; rw [if_neg (by omega), if_neg (by omega)]
 have hn2 : i < 31 → 2 * pow31 i = pow31 (i + 1) := fun h => pow31_next i h
 rw [Nat.testBit_xor] at hstep
 have hq : ¬ pow31 i = 0 := by omega
 have hlt' : (i : Int) < 32 := by omega
 have T : (((a : Int) / (pow31 i : Nat)) % 2 == ((b : Int) / (pow31 i : Nat)) % 2) = !(a.testBit i ^^ b.testBit i) := by
  rw [show (a : Int) / (pow31 i : Nat) % 2 = ((a / pow31 i % 2 : Nat) : Int) by omega, show (b : Int) / (pow31 i : Nat) % 2 = ((b / pow31 i % 2 : Nat) : Int) by omega, da, db]
  cases a.testBit i <;> cases b.testBit i <;> rfl
 clear da db
 generalize hG2 : (a ^^^ b) % 2 ^ (i + 1) = n2 at *
 generalize (a ^^^ b) % 2 ^ i = n at *
 rw [← hpa] at hstep
 clear hpa
 generalize hQ2 : pow31 (i + 1) = q2 at *
 generalize pow31 i = q at *
 replace hG2 := lh hG2
 replace hQ2 := lh hQ2
 cases hd : (a.testBit i ^^ b.testBit i)
 ·rw [hd] at T hstep
  simp only [Bool.not_false, Bool.false_eq_true, if_false, Nat.add_zero] at T hstep
  subst hstep
  by_cases h31 : i < 31
  ·have h31' : (i : Int) < 31 := by omega
   have hq2 := hn2 h31
   clear hn hn2
   go_wp2_with fail
   go_region
   all_goals (try go_wp2_with fail)
   go_roundw
   case rel => exact ⟨i + 1, by omega, by go_num, by rw [hG2.out], by rw [hQ2.out, ← hq2]; go_num, hB.drew⟩
   simp [intOf]; omega
  have h31' : ¬ (i : Int) < 31 := by omega
  have hq2 := hn (by omega)
  clear hn hn2
  go_wp2_with fail
  go_region
  all_goals (try go_wp2_with fail)
  go_roundw
  case rel => exact ⟨i + 1, by omega, by go_num, by rw [hG2.out], by rw [hQ2.out, hq2], hB.drew⟩
  simp [intOf]; omega
 rw [hd] at T hstep
 simp only [Bool.not_true, if_true] at T hstep
 by_cases h31 : i < 31
 ·have h31' : (i : Int) < 31 := by omega
  have hq2 := hn2 h31
  clear hn hn2
  go_wp2_with fail
  go_region
  all_goals (try go_wp2_with fail)
  go_roundw
  case rel => exact ⟨i + 1, by omega, by go_num, by rw [hG2.out, hstep]; go_num, by rw [hQ2.out, ← hq2]; go_num, hB.drew⟩
  simp [intOf]; omega
 have h31' : ¬ (i : Int) < 31 := by omega
 have hq2 := hn (by omega)
 clear hn hn2
 go_wp2_with fail
 go_region
 all_goals (try go_wp2_with fail)
 go_roundw
 case rel => exact ⟨i + 1, by omega, by go_num, by rw [hG2.out, hstep]; go_num, by rw [hQ2.out, hq2], hB.drew⟩
 simp [intOf]; omega
theorem refOn_any (r x : Nat) (w : World) (hr : r < 4294967296) (hx : x < 18446744073709551616) :
 Calls Tryz.prog 169 #[.int .u32 r, .int .u64 x] w fun e w' => e = .returned (.int .u32 (turnN 64 r x : Nat)) ∧ Below w.heap.size w w' := by
 go_enter Tryz.func169, Tryz.ntmps169
 go_wp2_with fail
 go_loopw [0, 1, 5] (fun a b k wr => ∃ i r1 x1 : Nat, i ≤ 64 ∧ k = .int .i64 i ∧ a = .int .u32 r1 ∧ b = .int .u64 x1 ∧ r1 < 4294967296 ∧ x1 < 18446744073709551616 ∧ Hid (turnN (64 - i) r1 x1 = turnN 64 r x) ∧ Below w.heap.size w wr) (fun _ _ k _ => 65 - (intOf k).toNat)
 case atStart => exact ⟨0, r, x, by omega, rfl, rfl, rfl, hr, hx, rfl, Below.refl _ _⟩
 obtain ⟨i, r1, x1, hi, rfl, rfl, rfl, hr1, hx1, hT, hB⟩ := hrel
 by_cases hlt : i < 64
 rotate_left
 ·obtain rfl : i = 64 := by omega
  have hT' : r1 = turnN 64 r x := hT.out
  replace hT' := lh hT'
  clear hT
  go_wp2_with fail
  go_ret
  exact ⟨by rw [← hT'.out]; rfl, hB⟩
 have hlt' : (i : Int) < 64 := by omega
 have hl := stepN_lt r1 x1 hr1
 have hT2 : turnN (64 - (i + 1)) (stepN r1 x1) (x1 / 2) = turnN 64 r x := by
  rw [← hT.out, show 64 - i = (64 - (i + 1)) + 1 by omega]
  rfl
 replace hT2 := lh hT2
 clear hT
 have hodd : (r1 ^^^ x1) % 2 = (if r1 % 2 = x1 % 2 then 0 else 1) := by
  rw [show (r1 ^^^ x1) % 2 = (r1 % 2 ^^^ x1 % 2) from Nat.xor_mod_two_pow (n := 1)]
  have h1 : r1 % 2 = 0 ∨ r1 % 2 = 1 := by omega
  have h2 : x1 % 2 = 0 ∨ x1 % 2 = 1 := by omega
  rcases h1 with h1 | h1 <;> rcases h2 with h2 | h2 <;> rw [h1, h2] <;> decide
 by_cases h : r1 % 2 = x1 % 2
 ·have hs : stepN r1 x1 = r1 / 2 := by unfold stepN; rw [hodd, if_pos h]; rfl
  rw [hs] at hT2 hl
  have T : ((r1 : Int) % 2 == (x1 : Int) % 2) = true := by rw [beq_iff_eq]; omega
  clear hodd hs
  go_wp2_with fail
  go_roundw
  case rel => exact ⟨i + 1, r1 / 2, x1 / 2, by omega, by go_num, by go_num, by go_num, hl, by omega, hT2, hB⟩
  simp [intOf]; omega
 have hs : stepN r1 x1 = (r1 / 2) ^^^ 3988292384 := by unfold stepN; rw [hodd, if_neg h]; rfl
 rw [hs] at hT2 hl
 have T : ((r1 : Int) % 2 == (x1 : Int) % 2) = false := by rw [beq_eq_false_iff_ne]; omega
 have hX := lh (fun w => show Calls Tryz.prog 191 #[.int .u32 ((r1 : Int) / 2), .int .u32 3988292384] w fun e w' => e = .returned (.int .u32 ((r1 / 2) ^^^ 3988292384 : Nat)) ∧ Below w.heap.size w w' from by
  rw [show (r1 : Int) / 2 = ((r1 / 2 : Nat) : Int) by omega]
  exact refXor_any (r1 / 2) 3988292384 w (by omega) (by omega))
 clear hodd hs h
 generalize (r1 / 2) ^^^ 3988292384 = r2 at *
 go_wp2_with fail
 refine (hX.out _).mono ?_
 rintro e w2 ⟨rfl, hb2⟩
 go_wp2_with fail
 go_roundw
 case rel => exact ⟨i + 1, r2, x1 / 2, by omega, by go_num, rfl, by go_num, hl, by omega, hT2, hB.trans (hb2.mono hB.size)⟩
 simp [intOf]; omega
end Go.Proofs.YtkkbngcgphlikaaGreatDoor
end
section
namespace Go.Proofs.YtkkbngcgphlikaaGreatDoor
open Go.RowKit
def SL (w : World) (v : Value) (l : List Nat) : Prop :=
 (l = [] ∧ ∃ sp cap, v = .slice sp 0 cap) ∨ ∃ g off cap, v = .slice (some ⟨g, off, none⟩) l.length cap ∧ g < w.heap.size ∧ l.length ≤ cap ∧ ∀ i, i < l.length → w.cell? ⟨g, off + i, none⟩ = some (.int .u64 (l.getD i 0 : Nat))
theorem SL.keep {w w1 : World} {v : Value} {l : List Nat} (h : SL w v l) (hb : Below w.heap.size w w1) : SL w1 v l := by
 rcases h with h | ⟨g, off, cap, hv, hg, hcap, hc⟩
 ·exact .inl h
 exact .inr ⟨g, off, cap, hv, Nat.lt_of_lt_of_le hg hb.size, hcap, fun i hi => by rw [(bcell hb).1 _ _ hg]; exact hc i hi⟩
def WL (l : List Nat) : Prop := ∀ x ∈ l, x < 18446744073709551616
theorem WL.at {l : List Nat} (h : WL l) (i : Nat) (hi : i < l.length) : l.getD i 0 < 18446744073709551616 := by
 rw [List.getD_eq_getElem?_getD, List.getElem?_eq_getElem hi]
 exact h _ (List.getElem_mem hi)
def foldT (r : Nat) (l : List Nat) : Nat := l.foldl (fun r x => turnN 64 r x) r
theorem foldT_step (r : Nat) (l : List Nat) (j : Nat) (h : j < l.length) : foldT r (l.take (j + 1)) = turnN 64 (foldT r (l.take j)) (l.getD j 0) := by
 unfold foldT
 rw [List.take_succ_eq_append_getElem h, List.foldl_append, List.getD_eq_getElem?_getD, List.getElem?_eq_getElem h]
 rfl
def moreN (s : Nat) (l : List Nat) : Nat := 4294967295 - foldT (4294967295 - s) l
theorem moreN_lt (s : Nat) (l : List Nat) : moreN s l < 4294967296 := by unfold moreN; omega
theorem refMore_any (s : Nat) (v : Value) (l : List Nat) (w : World) (hs : s < 4294967296) (hl : WL l) (hlen : l.length ≤ 1000) (hv : SL w v l) :
 Calls Tryz.prog 141 #[.int .u32 s, v] w fun e w' => e = .returned (.int .u32 (moreN s l : Nat)) ∧ Below w.heap.size w w' := by
 have hout := lh (show (moreN s l : Nat) = 4294967295 - foldT (4294967295 - s) l from rfl)
 rcases hv with ⟨rfl, sp, cap, rfl⟩ | ⟨g, off, cap, rfl, hg, hcap, hc⟩
 ·go_enter Tryz.func141, Tryz.ntmps141
  go_wp2_with fail
  go_loopw [5, 6] (fun a k wr => k = .int .i64 0 ∧ a = .int .u32 (4294967295 - s : Nat) ∧ Below w.heap.size w wr) (fun _ _ _ => 0)
  case atStart => exact ⟨rfl, by go_num, Below.refl _ _⟩
  obtain ⟨rfl, rfl, hB⟩ := hrel
  go_wp2_with fail
  go_ret
  exact ⟨by rw [hout.out, show foldT (4294967295 - s) [] = 4294967295 - s from rfl]; go_num, hB⟩
 have hC := lh hc
 clear hc
 go_enter Tryz.func141, Tryz.ntmps141
 go_wp2_with fail
 go_loopw [5, 6] (fun a k wr => ∃ i r1 : Nat, i ≤ l.length ∧ k = .int .i64 i ∧ a = .int .u32 r1 ∧ r1 < 4294967296 ∧ Hid (r1 = foldT (4294967295 - s) (l.take i)) ∧ Below w.heap.size w wr) (fun _ k _ => l.length + 1 - (intOf k).toNat)
 case atStart => exact ⟨0, 4294967295 - s, by omega, rfl, by go_num, by omega, rfl, Below.refl _ _⟩
 obtain ⟨i, r1, hi, rfl, rfl, hr1, hT, hB⟩ := hrel
 by_cases hlt : i < l.length
 ·have hlt' : (i : Int) < (l.length : Int) := by omega
  have hx := hl.at i hlt
  have hstep := lh (foldT_step (4294967295 - s) l i hlt)
  have hc : wr.cell? ⟨g, off + i, none⟩ = some (.int .u64 (l.getD i 0 : Nat)) := by rw [(bcell hB).1 _ _ hg]; exact hC.out i hlt
  have hO := lh (fun w => refOn_any r1 (l.getD i 0) w hr1 hx)
  generalize hy : l.getD i 0 = y at *
  go_wp2_with fail
  refine (hO.out _).mono ?_
  rintro e w2 ⟨rfl, hb2⟩
  go_wp2_with fail
  go_roundw
  case rel => exact ⟨i + 1, turnN 64 r1 y, by omega, by go_num, rfl, turnN_lt 64 r1 y hr1, by rw [hstep.out, ← hT.out]; rfl, hB.trans (hb2.mono hB.size)⟩
  simp [intOf]; omega
 obtain rfl : i = l.length := by omega
 have hT' : r1 = foldT (4294967295 - s) l := by rw [hT.out, List.take_of_length_le (Nat.le_refl _)]
 replace hT' := lh hT'
 clear hT
 go_wp2_with fail
 go_ret
 exact ⟨by rw [hout.out, ← hT'.out]; go_num, hB⟩
theorem not32 (s : Nat) (hs : s < 4294967296) : bits .xor .u32 IntKind.u32.max (s : Int) = ((4294967295 - s : Nat) : Int) := by
 rw [show IntKind.u32.max = ((4294967295 : Nat) : Int) by decide +kernel, u32_xor_nat _ _ (by omega) hs]
 congr 1
 apply Nat.eq_of_testBit_eq
 intro i
 rw [Nat.testBit_xor, show 4294967295 - s = 2 ^ 32 - (s + 1) by omega, Nat.testBit_two_pow_sub_succ (by omega), show (4294967295 : Nat) = 2 ^ 32 - 1 by decide, Nat.testBit_two_pow_sub_one]
 by_cases h : i < 32
 ·simp [h]
 have := Nat.testBit_lt_two_pow (Nat.lt_of_lt_of_le hs (show 4294967296 ≤ 2 ^ i from Nat.pow_le_pow_right (n := 2) (by omega) (show 32 ≤ i by omega)))
 simp [h, this]
theorem more_any (s : Nat) (v : Value) (l : List Nat) (w : World) (hs : s < 4294967296) (hl : WL l) (hlen : l.length ≤ 1000) (hv : SL w v l) :
 Calls Tryz.prog 186 #[.int .u32 s, v] w fun e w' => e = .returned (.int .u32 (moreN s l : Nat)) ∧ Below w.heap.size w w' := by
 have hout := lh (show (moreN s l : Nat) = 4294967295 - foldT (4294967295 - s) l from rfl)
 rcases hv with ⟨rfl, sp, cap, rfl⟩ | ⟨g, off, cap, rfl, hg, hcap, hc⟩
 ·go_enter Tryz.func186, Tryz.ntmps186
  go_wp2_with fail
  go_loopw [6, 14] (fun a k wr => k = .int .i64 0 ∧ a = .int .u32 (4294967295 - s : Nat) ∧ Below w.heap.size w wr) (fun _ _ _ => 0)
  case atStart => exact ⟨rfl, by rw [not32 s hs], bZ _ _⟩
  obtain ⟨rfl, rfl, hB⟩ := hrel
  go_wp2_with fail
  go_ret
  exact ⟨by rw [hout.out, show foldT (4294967295 - s) [] = 4294967295 - s from rfl, ← not32 (4294967295 - s) (by omega)]; rfl, hB⟩
 have hC := lh hc
 clear hc
 go_enter Tryz.func186, Tryz.ntmps186
 go_wp2_with fail
 go_loopw [6, 14] (fun a k wr => ∃ i r1 : Nat, i ≤ l.length ∧ k = .int .i64 i ∧ a = .int .u32 r1 ∧ r1 < 4294967296 ∧ Hid (r1 = foldT (4294967295 - s) (l.take i)) ∧ wr.cell? ⟨w.heap.size, 0, none⟩ = some (.func (.func 197) #[] #[.pointer (some ⟨w.heap.size, 0, none⟩)]) ∧ Below w.heap.size w wr) (fun _ k _ => l.length + 1 - (intOf k).toNat)
 case atStart => exact ⟨0, 4294967295 - s, by omega, rfl, by rw [not32 s hs], by omega, rfl, by simp [go_sem], bZ _ _⟩
 obtain ⟨i, r1, hi, rfl, rfl, hr1, hT, hcl, hB⟩ := hrel
 by_cases hlt : i < l.length
 ·have hlt' : (i : Int) < (l.length : Int) := by omega
  have hx := hl.at i hlt
  have hstep := lh (foldT_step (4294967295 - s) l i hlt)
  have hc : wr.cell? ⟨g, off + i, none⟩ = some (.int .u64 (l.getD i 0 : Nat)) := by rw [(bcell hB).1 _ _ hg]; exact hC.out i hlt
  have hO := lh (turn_any 64 r1 (l.getD i 0) wr w.heap.size (by omega) hr1 hx hcl)
  generalize hy : l.getD i 0 = y at *
  go_wp2_with fail
  refine hO.out.mono ?_
  rintro e w2 ⟨rfl, rfl⟩
  go_wp2_with fail
  go_roundw
  case rel => exact ⟨i + 1, turnN 64 r1 y, by omega, by go_num, rfl, turnN_lt 64 r1 y hr1, by rw [hstep.out, ← hT.out]; rfl, hcl, hB⟩
  simp [intOf]; omega
 obtain rfl : i = l.length := by omega
 have hT' : r1 = foldT (4294967295 - s) l := by rw [hT.out, List.take_of_length_le (Nat.le_refl _)]
 replace hT' := lh hT'
 clear hT
 go_wp2_with fail
 go_ret
 exact ⟨by rw [hout.out, ← hT'.out, ← not32 r1 hr1]; rfl, hB⟩
theorem of_any (v : Value) (l : List Nat) (w : World) (hl : WL l) (hlen : l.length ≤ 1000) (hv : SL w v l) :
 Calls Tryz.prog 157 #[v] w fun e w' => e = .returned (.int .u32 (moreN 0 l : Nat)) ∧ Below w.heap.size w w' := by
 have hM := lh (more_any 0 v l w (by omega) hl hlen hv)
 clear hv
 go_enter Tryz.func157, Tryz.ntmps157
 go_wp2_with fail
 refine hM.out.mono ?_
 rintro e w2 ⟨rfl, hb⟩
 go_wp2_with fail
 go_ret
 exact ⟨rfl, hb⟩
theorem refOf_any (v : Value) (l : List Nat) (w : World) (hl : WL l) (hlen : l.length ≤ 1000) (hv : SL w v l) :
 Calls Tryz.prog 87 #[v] w fun e w' => e = .returned (.int .u32 (moreN 0 l : Nat)) ∧ Below w.heap.size w w' := by
 have hM := lh (refMore_any 0 v l w (by omega) hl hlen hv)
 clear hv
 go_enter Tryz.func87, Tryz.ntmps87
 go_wp2_with fail
 refine hM.out.mono ?_
 rintro e w2 ⟨rfl, hb⟩
 go_wp2_with fail
 go_ret
 exact ⟨rfl, hb⟩
end Go.Proofs.YtkkbngcgphlikaaGreatDoor
end
section
namespace Go.Proofs.YtkkbngcgphlikaaGreatDoor
open Go.RowKit
theorem infoU64 : (Tryz.prog.info? 40).map (fun i => (i.zero, i.size, i.bytes)) = some (some (.int .u64 0), 1, 8) := by kernel_rfl
theorem infoU64s : (Tryz.prog.info? 40).map (·.size) = some 1 := by kernel_rfl
theorem row_cell {w : World} {g : Nat} {cs : Array Value} {t : TypeId} (h : w.heap[g]? = some (.cells cs t (0, 0))) (i : Nat) : w.cell? ⟨g, i, none⟩ = cs[i]? ∧ w.frozen? ⟨g, i, none⟩ = false := by
 constructor <;> simp [World.cell?, World.frozen?, h]
theorem row_of_owns {w : World} {base e g n cap : Nat} {xs : List Value} (h : w.ownsRow base e 1 (.slice (some ⟨g, 0, none⟩) n cap) n xs) (hc : n = cap) : w.heap[g]? = some (.cells xs.toArray e (0, 0)) := by
 rcases h.2 with ⟨hv, _⟩ | ⟨g', cap', cur, hv, hb, hg, h1, h2, h3, h4⟩
 ·simp at hv
 simp only [Value.slice.injEq, Option.some.injEq, Addr.mk.injEq, and_true, true_and] at hv
 obtain ⟨rfl, rfl⟩ := hv
 subst hc
 rw [hg]
 have : cur.toList = xs := by
  rw [← h4, List.take_of_length_le (by simp [h3])]
 rw [← this]
def wv (l : List Nat) : List Value := l.map fun x : Nat => Value.int .u64 (x : Int)
theorem wv_len (l : List Nat) : (wv l).length = l.length := by simp [wv]
theorem wv_at (l : List Nat) (i : Nat) (h : i < l.length) : (wv l)[i]? = some (.int .u64 (l.getD i 0 : Nat)) := by
 unfold wv
 rw [List.getElem?_map, List.getElem?_eq_getElem h, List.getD_eq_getElem?_getD, List.getElem?_eq_getElem h]
 rfl
theorem copyW {w1 : World} {g d cap : Nat} {sp : Option Addr} {t : TypeId} (l : List Nat) (h : w1.heap[g]? = some (.cells (List.replicate d (Value.int .u64 0)).toArray t (0, 0))) (hv : SL w1 (.slice sp l.length cap) l) :
 ∃ w2, (Builtin.copy_ #[25, 25] 3 #[.slice (some ⟨g, 0, none⟩) d d, .slice sp l.length cap]).run Tryz.prog w1 = .ok (goInt (Nat.min l.length d)) w2 ∧
   w2.heap[g]? = some (.cells (wv (l.take (Nat.min l.length d)) ++ List.replicate (d - Nat.min l.length d) (Value.int .u64 0)).toArray t (0, 0)) ∧ Below g w1 w2 := by
 by_cases h0 : Nat.min l.length d = 0
 ·refine ⟨w1, ?_, ?_, Below.refl _ _⟩
  ·rw [h0]; exact run_copy_none w1 _ _ _ 40 _ _ _ _ _ _ Tryz.underlying25 infoU64s h0
  rw [h0]; simpa [wv] using h
 rcases hv with ⟨rfl, _⟩ | ⟨g', off, cap', hv, hg, hcap, hc⟩
 ·exact absurd (by simp) h0
 simp only [Value.slice.injEq, true_and] at hv
 obtain ⟨rfl, rfl⟩ := hv
 have hk1 : Nat.min l.length d ≤ l.length := Nat.min_le_left _ _
 have hk2 : Nat.min l.length d ≤ d := Nat.min_le_right _ _
 generalize hk : Nat.min l.length d = k at *
 have hcs : (wv (l.take k)).length = k := by rw [wv_len]; simp; omega
 have hrun := run_copy_row (P := Tryz.prog) w1 25 25 3 40 g 0 d d ⟨g', off, none⟩ l.length cap _ t (wv (l.take k)) Tryz.underlying25 infoU64s h (by rw [hcs, ← hk])
  (fun j v hj => by
    have hjk : j < k := by
     have := (List.getElem?_eq_some_iff.1 hj).1
     omega
    rw [wv_at _ j (by simp; omega)] at hj
    rw [← hj, show (⟨g', off, none⟩ : Addr).add j = ⟨g', off + j, none⟩ by simp [Addr.add], hc j (by omega)]
    congr 3
    rw [List.getD_eq_getElem?_getD, List.getD_eq_getElem?_getD, List.getElem?_take, if_pos hjk])
  (by rw [hcs]; simp; omega) (fun v hv => by unfold wv at hv; obtain ⟨x, _, rfl⟩ := List.mem_map.1 hv; rfl)
 refine ⟨_, by rw [← hcs]; exact hrun, ?_, below_setRow (Below.refl _ _) (Nat.le_refl _) _⟩
 have := setRow_heap w1 g (List.replicate d (Value.int .u64 0)).toArray (wv (l.take k) ++ List.replicate (d - k) (Value.int .u64 0)).toArray t _ h
 rw [← this]
 congr 3
 simp [hcs]
theorem cellK {w w1 : World} {b o : Nat} {v : Value} (h : w.cell? ⟨b, o, none⟩ = some v) (hb : Below w.heap.size w w1) : w1.cell? ⟨b, o, none⟩ = some v := by
 rw [(bcell hb).1 _ _ (World.block_lt_of_cell? w _ h)]; exact h
theorem sl_take {l : List Nat} {N g off cap : Nat} {w w1 : World} (hN : l.length = N + 1) (hcap : N + 1 ≤ cap) (hg : g < w.heap.size) (hc : ∀ i, i < N + 1 → w.cell? ⟨g, off + i, none⟩ = some (.int .u64 (l.getD i 0 : Nat))) (hb : Below w.heap.size w w1) (k : Nat) (hk : k ≤ N + 1) :
 SL w1 (.slice (some ⟨g, off, none⟩) k cap) (l.take k) := by
 have hlk : (l.take k).length = k := by simp; omega
 refine .inr ⟨g, off, cap, by rw [hlk], Nat.lt_of_lt_of_le hg hb.size, by omega, fun i hi => ?_⟩
 rw [(bcell hb).1 _ _ hg, hc i (by omega)]
 congr 3
 rw [List.getD_eq_getElem?_getD, List.getD_eq_getElem?_getD, List.getElem?_take, if_pos (by omega)]
end Go.Proofs.YtkkbngcgphlikaaGreatDoor
end
section
namespace Go.Proofs.YtkkbngcgphlikaaGreatDoor
open Go.RowKit
theorem SL.pos {w : World} {v : Value} {l : List Nat} {n : Nat} (h : SL w v l) (hn : l.length = n + 1) : ∃ g off cap, v = .slice (some ⟨g, off, none⟩) (n + 1) cap ∧ g < w.heap.size ∧ n + 1 ≤ cap ∧ ∀ i, i < n + 1 → w.cell? ⟨g, off + i, none⟩ = some (.int .u64 (l.getD i 0 : Nat)) := by
 rcases h with ⟨rfl, _⟩ | ⟨g, off, cap, rfl, hg, hcap, hc⟩
 ·simp at hn
 exact ⟨g, off, cap, by rw [hn], hg, by omega, fun i hi => hc i (by omega)⟩
end Go.Proofs.YtkkbngcgphlikaaGreatDoor
end
section
namespace Go.Proofs.YtkkbngcgphlikaaGreatDoor
open Go.RowKit
theorem SL.form {w : World} {v : Value} {l : List Nat} (h : SL w v l) : ∃ sp cap, v = .slice sp l.length cap := by
 rcases h with ⟨rfl, sp, cap, rfl⟩ | ⟨g, off, cap, rfl, _⟩
 ·exact ⟨_, _, rfl⟩
 exact ⟨_, _, rfl⟩
end Go.Proofs.YtkkbngcgphlikaaGreatDoor
end
