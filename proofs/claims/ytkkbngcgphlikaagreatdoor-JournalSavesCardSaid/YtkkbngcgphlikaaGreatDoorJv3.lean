/-
  Part of the proof of JournalSaves.
-/
import Derived.Test.YtkkbngcgphlikaaGreatDoorJv1
import Derived.Test.YtkkbngcgphlikaaGreatDoorRows
import Derived.Laws.BitsAllLaws
import Derived.WalkLawsBesides
import Derived.WalkSpells
import Derived.Laws.EntriesVeiled
import Derived.Deep.RegionHeld3
import Derived.OwnWalkIn
import Derived.StillTail
import Derived.Handy
import Derived.Test.YtkkbngcgphlikaaGreatDoorJv0
set_option maxRecDepth 10000
set_option maxHeartbeats 2000000
set_option linter.unusedVariables false
set_option linter.unusedSimpArgs false
section
namespace Go.Proofs.YtkkbngcgphlikaaGreatDoor
open Go.RowKit
def stepN (r w : Nat) : Nat := if (r ^^^ w) % 2 = 1 then (r / 2) ^^^ 3988292384 else r / 2
def turnN : Nat → Nat → Nat → Nat
 | 0, r, _ => r
 | n + 1, r, w => turnN n (stepN r w) (w / 2)
theorem xor_lt32 {a b : Nat} (ha : a < 4294967296) (hb : b < 4294967296) : a ^^^ b < 4294967296 := Nat.xor_lt_two_pow (n := 32) ha hb
theorem stepN_lt (r w : Nat) (hr : r < 4294967296) : stepN r w < 4294967296 := by
 unfold stepN
 split
 ·exact xor_lt32 (by omega) (by omega)
 ·omega
theorem turnN_lt (n : Nat) : ∀ (r w : Nat), r < 4294967296 → turnN n r w < 4294967296 := by
 induction n with
 | zero => intro r w h; exact h
 | succ n ih => intro r w h; exact ih _ _ (stepN_lt r w h)
theorem turn_any (n : Nat) : ∀ (r x : Nat) (w : World) (g : Nat), n ≤ 64 → r < 4294967296 → x < 18446744073709551616 → w.cell? ⟨g, 0, none⟩ = some (.func (.func 197) #[] #[.pointer (some ⟨g, 0, none⟩)]) →
 Calls Tryz.prog 197 #[.int .u32 r, .int .u64 x, .int .i64 n, .pointer (some ⟨g, 0, none⟩)] w fun e w' => e = .returned (.int .u32 (turnN n r x : Nat)) ∧ w = w' := by
 induction n with
 | zero =>
   intro r x w g hn hr hx hg
   go_enter Tryz.func197, Tryz.ntmps197
   go_wp2_with fail
   go_ret
   exact ⟨rfl, rfl⟩
 | succ n ih =>
   intro r x w g hn hr hx hg
   have e1 : bits .xor .u64 (r : Int) (x : Int) = ((r ^^^ x : Nat) : Int) := u64_xor_nat r x (by omega) hx
   have hl := stepN_lt r x hr
   have hI := ih (stepN r x) (x / 2) w g (by omega) hl (by omega) hg
   have ht : turnN (n + 1) r x = turnN n (stepN r x) (x / 2) := rfl
   rw [ht]
   generalize turnN n (stepN r x) (x / 2) = res at hI ⊢
   clear ih ht
   rw [show ((x / 2 : Nat) : Int) = (x : Int) / 2 by omega] at hI
   have e0 : ((n + 1 : Nat) : Int) = (n : Int) + 1 := by omega
   have hq : ¬ (n : Int) + 1 = 0 := by omega
   rw [e0]
   clear e0
   have e2 : bits .and .u64 ((r ^^^ x : Nat) : Int) 1 = (((r ^^^ x) % 2 : Nat) : Int) := by
    rw [show (1 : Int) = ((1 : Nat) : Int) from rfl, u64_and_nat _ 1 (Nat.xor_lt_two_pow (n := 64) (by omega) hx) (by omega), Nat.and_one_is_mod]
   by_cases h : (r ^^^ x) % 2 = 1
   ·have hs : ((stepN r x : Nat) : Int) = bits .xor .u32 ((r : Int) / 2) 3988292384 := by
     unfold stepN
     rw [if_pos h, show (r : Int) / 2 = ((r / 2 : Nat) : Int) by omega]
     exact (u32_xor_nat (r / 2) 3988292384 (by omega) (by omega)).symm
    rw [hs] at hI
    replace hI := lh hI
    have hT : (bits .and .u64 (bits .xor .u64 (r : Int) (x : Int)) 1 == 1) = true := by rw [e1, e2, h]; rfl
    clear hs e1 e2 h hl
    go_enter Tryz.func197, Tryz.ntmps197
    go_wp2_with fail
    refine hI.out.mono ?_
    rintro e w' ⟨rfl, rfl⟩
    go_wp2_with fail
    go_ret
    exact ⟨rfl, rfl⟩
   ·have h0 : (r ^^^ x) % 2 = 0 := by omega
    have hs : ((stepN r x : Nat) : Int) = (r : Int) / 2 := by
     unfold stepN
     rw [if_neg h]
     omega
    rw [hs] at hI
    replace hI := lh hI
    have hT : (bits .and .u64 (bits .xor .u64 (r : Int) (x : Int)) 1 == 1) = false := by rw [e1, e2, h0]; rfl
    clear hs e1 e2 h h0 hl
    go_enter Tryz.func197, Tryz.ntmps197
    go_wp2_with fail
    refine hI.out.mono ?_
    rintro e w' ⟨rfl, rfl⟩
    go_wp2_with fail
    go_ret
    exact ⟨rfl, rfl⟩
end Go.Proofs.YtkkbngcgphlikaaGreatDoor
end
section
namespace Go.Proofs.YtkkbngcgphlikaaGreatDoor
theorem mod_step (x n : Nat) : x % 2 ^ (n + 1) = x % 2 ^ n + if x.testBit n then 2 ^ n else 0 := by
 rw [Nat.pow_succ, Nat.mod_mul, Nat.testBit_eq_decide_div_mod_eq]
 rcases Nat.mod_two_eq_zero_or_one (x / 2 ^ n) with h | h <;> simp [h]
end Go.Proofs.YtkkbngcgphlikaaGreatDoor
end
section
namespace Go.Proofs.YtkkbngcgphlikaaGreatDoor
open Go.RowKit
theorem bit_div (a p i : Nat) (hp : p = 2 ^ i) : a / p % 2 = (if a.testBit i then 1 else 0) := by
 subst hp
 rw [Nat.testBit_eq_decide_div_mod_eq]
 by_cases h : a / 2 ^ i % 2 = 1
 ·simp [h]
 ·simp [h]; omega
def pow31 (i : Nat) : Nat := if i < 31 then 2 ^ i else 2147483648
theorem pow31_bd (i : Nat) : 1 ≤ pow31 i ∧ pow31 i ≤ 2147483648 := by
 unfold pow31
 split
 ·rename_i h
  have := Nat.pow_le_pow_right (by omega : 2 > 0) (show i ≤ 31 by omega)
  have := Nat.one_le_two_pow (n := i)
  omega
 ·omega
theorem pow31_at (i : Nat) (h : i < 32) : pow31 i = 2 ^ i := by
 unfold pow31
 by_cases h2 : i < 31
 ·rw [if_pos h2]
 ·obtain rfl : i = 31 := by omega
  rfl
theorem pow31_next (i : Nat) (h : i < 31) : 2 * pow31 i = pow31 (i + 1) := by
 rw [pow31_at i (by omega), pow31_at (i + 1) (by omega), Nat.pow_succ, Nat.mul_comm]
theorem refXor_any (a b : Nat) (w : World) (ha : a < 4294967296) (hb : b < 4294967296) :
 Calls Tryz.prog 191 #[.int .u32 a, .int .u32 b] w fun e w' => e = .returned (.int .u32 (a ^^^ b : Nat)) ∧ Below w.heap.size w w' := by
 have hx : a ^^^ b < 4294967296 := xor_lt32 ha hb
 go_enter Tryz.func191, Tryz.ntmps191
 go_wp2_with fail
 go_loopw [5, 6, 7] (fun n p k wr => ∃ i : Nat, i ≤ 32 ∧ k = .int .i64 i ∧ n = .int .u32 ((a ^^^ b) % 2 ^ i : Nat) ∧ p = .int .u32 (pow31 i : Nat) ∧ Below w.heap.size w wr) (fun _ _ k _ => 33 - (intOf k).toNat)
 case atStart => exact ⟨0, by omega, rfl, by simp [Nat.mod_one], rfl, Below.refl _ _⟩
 case round =>
  obtain ⟨i, hi, rfl, rfl, rfl, hB⟩ := hrel
  by_cases hlt : i < 32
  ·have hstep := mod_step (a ^^^ b) i
   have hlast : (a ^^^ b) % 2 ^ (i + 1) ≤ a ^^^ b := Nat.mod_le _ _
   have hpa := pow31_at i hlt
   obtain ⟨p1, p2⟩ := pow31_bd i
   obtain ⟨_, p4⟩ := pow31_bd (i + 1)
   have da := bit_div a (pow31 i) i hpa
   have db := bit_div b (pow31 i) i hpa
   have hn : 31 ≤ i → pow31 (i + 1) = pow31 i := fun h => by unfold pow31; rw [if_neg (by omega), if_neg (by omega)]
   have hn2 : i < 31 → 2 * pow31 i = pow31 (i + 1) := fun h => pow31_next i h
   rw [Nat.testBit_xor] at hstep
   have hq : ¬ pow31 i = 0 := by omega
   have hlt' : (i : Int) < 32 := by omega
   have T : (((a : Int) / (pow31 i : Nat)) % 2 == ((b : Int) / (pow31 i : Nat)) % 2) = !(a.testBit i ^^ b.testBit i) := by
    rw [show (a : Int) / (pow31 i : Nat) % 2 = ((a / pow31 i % 2 : Nat) : Int) by omega, show (b : Int) / (pow31 i : Nat) % 2 = ((b / pow31 i % 2 : Nat) : Int) by omega, da, db]
    cases a.testBit i <;> cases b.testBit i <;> rfl
   clear da db
   generalize hG2 : (a ^^^ b) % 2 ^ (i + 1) = n2 at *
   generalize (a ^^^ b) % 2 ^ i = n at *
   rw [← hpa] at hstep
   clear hpa
   generalize hQ2 : pow31 (i + 1) = q2 at *
   generalize pow31 i = q at *
   replace hG2 := lh hG2
   replace hQ2 := lh hQ2
   cases hd : (a.testBit i ^^ b.testBit i)
   ·rw [hd] at T hstep
    simp only [Bool.not_false, Bool.false_eq_true, if_false, Nat.add_zero] at T hstep
    subst hstep
    by_cases h31 : i < 31
    ·have h31' : (i : Int) < 31 := by omega
     have hq2 := hn2 h31
     clear hn hn2
     go_wp2_with fail
     go_region
     all_goals (try go_wp2_with fail)
     go_roundw
     case rel => exact ⟨i + 1, by omega, by go_num, by rw [hG2.out], by rw [hQ2.out, ← hq2]; go_num, hB.drew⟩
     case measure => simp [intOf]; omega
    ·have h31' : ¬ (i : Int) < 31 := by omega
     have hq2 := hn (by omega)
     clear hn hn2
     go_wp2_with fail
     go_region
     all_goals (try go_wp2_with fail)
     go_roundw
     case rel => exact ⟨i + 1, by omega, by go_num, by rw [hG2.out], by rw [hQ2.out, hq2], hB.drew⟩
     case measure => simp [intOf]; omega
   ·rw [hd] at T hstep
    simp only [Bool.not_true, if_true] at T hstep
    by_cases h31 : i < 31
    ·have h31' : (i : Int) < 31 := by omega
     have hq2 := hn2 h31
     clear hn hn2
     go_wp2_with fail
     go_region
     all_goals (try go_wp2_with fail)
     go_roundw
     case rel => exact ⟨i + 1, by omega, by go_num, by rw [hG2.out, hstep]; go_num, by rw [hQ2.out, ← hq2]; go_num, hB.drew⟩
     case measure => simp [intOf]; omega
    ·have h31' : ¬ (i : Int) < 31 := by omega
     have hq2 := hn (by omega)
     clear hn hn2
     go_wp2_with fail
     go_region
     all_goals (try go_wp2_with fail)
     go_roundw
     case rel => exact ⟨i + 1, by omega, by go_num, by rw [hG2.out, hstep]; go_num, by rw [hQ2.out, hq2], hB.drew⟩
     case measure => simp [intOf]; omega
  ·obtain rfl : i = 32 := by omega
   rw [Nat.mod_eq_of_lt (show a ^^^ b < 2 ^ 32 from hx)]
   go_wp2_with fail
   go_ret
   exact ⟨rfl, hB⟩
theorem refOn_any (r x : Nat) (w : World) (hr : r < 4294967296) (hx : x < 18446744073709551616) :
 Calls Tryz.prog 169 #[.int .u32 r, .int .u64 x] w fun e w' => e = .returned (.int .u32 (turnN 64 r x : Nat)) ∧ Below w.heap.size w w' := by
 go_enter Tryz.func169, Tryz.ntmps169
 go_wp2_with fail
 go_loopw [0, 1, 5] (fun a b k wr => ∃ i r1 x1 : Nat, i ≤ 64 ∧ k = .int .i64 i ∧ a = .int .u32 r1 ∧ b = .int .u64 x1 ∧ r1 < 4294967296 ∧ x1 < 18446744073709551616 ∧ Hid (turnN (64 - i) r1 x1 = turnN 64 r x) ∧ Below w.heap.size w wr) (fun _ _ k _ => 65 - (intOf k).toNat)
 case atStart => exact ⟨0, r, x, by omega, rfl, rfl, rfl, hr, hx, rfl, Below.refl _ _⟩
 case round =>
  obtain ⟨i, r1, x1, hi, rfl, rfl, rfl, hr1, hx1, hT, hB⟩ := hrel
  by_cases hlt : i < 64
  ·have hlt' : (i : Int) < 64 := by omega
   have hl := stepN_lt r1 x1 hr1
   have hT2 : turnN (64 - (i + 1)) (stepN r1 x1) (x1 / 2) = turnN 64 r x := by
    rw [← hT.out, show 64 - i = (64 - (i + 1)) + 1 by omega]
    rfl
   replace hT2 := lh hT2
   clear hT
   have hodd : (r1 ^^^ x1) % 2 = (if r1 % 2 = x1 % 2 then 0 else 1) := by
    rw [show (r1 ^^^ x1) % 2 = (r1 % 2 ^^^ x1 % 2) from Nat.xor_mod_two_pow (n := 1)]
    have h1 : r1 % 2 = 0 ∨ r1 % 2 = 1 := by omega
    have h2 : x1 % 2 = 0 ∨ x1 % 2 = 1 := by omega
    rcases h1 with h1 | h1 <;> rcases h2 with h2 | h2 <;> rw [h1, h2] <;> decide
   by_cases h : r1 % 2 = x1 % 2
   ·have hs : stepN r1 x1 = r1 / 2 := by unfold stepN; rw [hodd, if_pos h]; rfl
    rw [hs] at hT2 hl
    have T : ((r1 : Int) % 2 == (x1 : Int) % 2) = true := by rw [beq_iff_eq]; omega
    clear hodd hs
    go_wp2_with fail
    go_roundw
    case rel => exact ⟨i + 1, r1 / 2, x1 / 2, by omega, by go_num, by go_num, by go_num, hl, by omega, hT2, hB⟩
    case measure => simp [intOf]; omega
   ·have hs : stepN r1 x1 = (r1 / 2) ^^^ 3988292384 := by unfold stepN; rw [hodd, if_neg h]; rfl
    rw [hs] at hT2 hl
    have T : ((r1 : Int) % 2 == (x1 : Int) % 2) = false := by rw [beq_eq_false_iff_ne]; omega
    have hX := lh (fun w => show Calls Tryz.prog 191 #[.int .u32 ((r1 : Int) / 2), .int .u32 3988292384] w fun e w' => e = .returned (.int .u32 ((r1 / 2) ^^^ 3988292384 : Nat)) ∧ Below w.heap.size w w' from by
     rw [show (r1 : Int) / 2 = ((r1 / 2 : Nat) : Int) by omega]
     exact refXor_any (r1 / 2) 3988292384 w (by omega) (by omega))
    clear hodd hs h
    generalize (r1 / 2) ^^^ 3988292384 = r2 at *
    go_wp2_with fail
    refine (hX.out _).mono ?_
    rintro e w2 ⟨rfl, hb2⟩
    go_wp2_with fail
    go_roundw
    case rel => exact ⟨i + 1, r2, x1 / 2, by omega, by go_num, rfl, by go_num, hl, by omega, hT2, hB.trans (hb2.mono hB.size)⟩
    case measure => simp [intOf]; omega
  ·obtain rfl : i = 64 := by omega
   have hT' : r1 = turnN 64 r x := hT.out
   replace hT' := lh hT'
   clear hT
   go_wp2_with fail
   go_ret
   exact ⟨by rw [← hT'.out]; rfl, hB⟩
end Go.Proofs.YtkkbngcgphlikaaGreatDoor
end
section
namespace Go.Proofs.YtkkbngcgphlikaaGreatDoor
open Go.RowKit
def SL (w : World) (v : Value) (l : List Nat) : Prop :=
 (l = [] ∧ ∃ sp cap, v = .slice sp 0 cap) ∨ ∃ g off cap, v = .slice (some ⟨g, off, none⟩) l.length cap ∧ g < w.heap.size ∧ l.length ≤ cap ∧ ∀ i, i < l.length → w.cell? ⟨g, off + i, none⟩ = some (.int .u64 (l.getD i 0 : Nat))
theorem SL.keep {w w1 : World} {v : Value} {l : List Nat} (h : SL w v l) (hb : Below w.heap.size w w1) : SL w1 v l := by
 rcases h with h | ⟨g, off, cap, hv, hg, hcap, hc⟩
 ·exact .inl h
 ·exact .inr ⟨g, off, cap, hv, Nat.lt_of_lt_of_le hg hb.size, hcap, fun i hi => by rw [(bcell hb).1 _ _ hg]; exact hc i hi⟩
def WL (l : List Nat) : Prop := ∀ x ∈ l, x < 18446744073709551616
theorem WL.at {l : List Nat} (h : WL l) (i : Nat) (hi : i < l.length) : l.getD i 0 < 18446744073709551616 := by
 rw [List.getD_eq_getElem?_getD, List.getElem?_eq_getElem hi]
 exact h _ (List.getElem_mem hi)
def foldT (r : Nat) (l : List Nat) : Nat := l.foldl (fun r x => turnN 64 r x) r
theorem foldT_step (r : Nat) (l : List Nat) (j : Nat) (h : j < l.length) : foldT r (l.take (j + 1)) = turnN 64 (foldT r (l.take j)) (l.getD j 0) := by
 unfold foldT
 rw [List.take_succ_eq_append_getElem h, List.foldl_append, List.getD_eq_getElem?_getD, List.getElem?_eq_getElem h]
 rfl
def moreN (s : Nat) (l : List Nat) : Nat := 4294967295 - foldT (4294967295 - s) l
theorem moreN_lt (s : Nat) (l : List Nat) : moreN s l < 4294967296 := by unfold moreN; omega
theorem refMore_any (s : Nat) (v : Value) (l : List Nat) (w : World) (hs : s < 4294967296) (hl : WL l) (hlen : l.length ≤ 1000) (hv : SL w v l) :
 Calls Tryz.prog 141 #[.int .u32 s, v] w fun e w' => e = .returned (.int .u32 (moreN s l : Nat)) ∧ Below w.heap.size w w' := by
 have hout := lh (show (moreN s l : Nat) = 4294967295 - foldT (4294967295 - s) l from rfl)
 rcases hv with ⟨rfl, sp, cap, rfl⟩ | ⟨g, off, cap, rfl, hg, hcap, hc⟩
 ·go_enter Tryz.func141, Tryz.ntmps141
  go_wp2_with fail
  go_loopw [5, 6] (fun a k wr => k = .int .i64 0 ∧ a = .int .u32 (4294967295 - s : Nat) ∧ Below w.heap.size w wr) (fun _ _ _ => 0)
  case atStart => exact ⟨rfl, by go_num, Below.refl _ _⟩
  case round =>
   obtain ⟨rfl, rfl, hB⟩ := hrel
   go_wp2_with fail
   go_ret
   exact ⟨by rw [hout.out, show foldT (4294967295 - s) [] = 4294967295 - s from rfl]; go_num, hB⟩
 ·have hC := lh hc
  clear hc
  go_enter Tryz.func141, Tryz.ntmps141
  go_wp2_with fail
  go_loopw [5, 6] (fun a k wr => ∃ i r1 : Nat, i ≤ l.length ∧ k = .int .i64 i ∧ a = .int .u32 r1 ∧ r1 < 4294967296 ∧ Hid (r1 = foldT (4294967295 - s) (l.take i)) ∧ Below w.heap.size w wr) (fun _ k _ => l.length + 1 - (intOf k).toNat)
  case atStart => exact ⟨0, 4294967295 - s, by omega, rfl, by go_num, by omega, rfl, Below.refl _ _⟩
  case round =>
   obtain ⟨i, r1, hi, rfl, rfl, hr1, hT, hB⟩ := hrel
   by_cases hlt : i < l.length
   ·have hlt' : (i : Int) < (l.length : Int) := by omega
    have hx := hl.at i hlt
    have hstep := lh (foldT_step (4294967295 - s) l i hlt)
    have hc : wr.cell? ⟨g, off + i, none⟩ = some (.int .u64 (l.getD i 0 : Nat)) := by rw [(bcell hB).1 _ _ hg]; exact hC.out i hlt
    have hO := lh (fun w => refOn_any r1 (l.getD i 0) w hr1 hx)
    generalize hy : l.getD i 0 = y at *
    go_wp2_with fail
    refine (hO.out _).mono ?_
    rintro e w2 ⟨rfl, hb2⟩
    go_wp2_with fail
    go_roundw
    case rel => exact ⟨i + 1, turnN 64 r1 y, by omega, by go_num, rfl, turnN_lt 64 r1 y hr1, by rw [hstep.out, ← hT.out]; rfl, hB.trans (hb2.mono hB.size)⟩
    case measure => simp [intOf]; omega
   ·obtain rfl : i = l.length := by omega
    have hT' : r1 = foldT (4294967295 - s) l := by rw [hT.out, List.take_of_length_le (Nat.le_refl _)]
    replace hT' := lh hT'
    clear hT
    go_wp2_with fail
    go_ret
    exact ⟨by rw [hout.out, ← hT'.out]; go_num, hB⟩
theorem not32 (s : Nat) (hs : s < 4294967296) : bits .xor .u32 IntKind.u32.max (s : Int) = ((4294967295 - s : Nat) : Int) := by
 rw [show IntKind.u32.max = ((4294967295 : Nat) : Int) by decide +kernel, u32_xor_nat _ _ (by omega) hs]
 congr 1
 apply Nat.eq_of_testBit_eq
 intro i
 rw [Nat.testBit_xor, show 4294967295 - s = 2 ^ 32 - (s + 1) by omega, Nat.testBit_two_pow_sub_succ (by omega), show (4294967295 : Nat) = 2 ^ 32 - 1 by decide, Nat.testBit_two_pow_sub_one]
 by_cases h : i < 32
 ·simp [h]
 ·have := Nat.testBit_lt_two_pow (Nat.lt_of_lt_of_le hs (show 4294967296 ≤ 2 ^ i from Nat.pow_le_pow_right (n := 2) (by omega) (show 32 ≤ i by omega)))
  simp [h, this]
theorem more_any (s : Nat) (v : Value) (l : List Nat) (w : World) (hs : s < 4294967296) (hl : WL l) (hlen : l.length ≤ 1000) (hv : SL w v l) :
 Calls Tryz.prog 186 #[.int .u32 s, v] w fun e w' => e = .returned (.int .u32 (moreN s l : Nat)) ∧ Below w.heap.size w w' := by
 have hout := lh (show (moreN s l : Nat) = 4294967295 - foldT (4294967295 - s) l from rfl)
 rcases hv with ⟨rfl, sp, cap, rfl⟩ | ⟨g, off, cap, rfl, hg, hcap, hc⟩
 ·go_enter Tryz.func186, Tryz.ntmps186
  go_wp2_with fail
  go_loopw [6, 14] (fun a k wr => k = .int .i64 0 ∧ a = .int .u32 (4294967295 - s : Nat) ∧ Below w.heap.size w wr) (fun _ _ _ => 0)
  case atStart => exact ⟨rfl, by rw [not32 s hs], bZ _ _⟩
  case round =>
   obtain ⟨rfl, rfl, hB⟩ := hrel
   go_wp2_with fail
   go_ret
   exact ⟨by rw [hout.out, show foldT (4294967295 - s) [] = 4294967295 - s from rfl, ← not32 (4294967295 - s) (by omega)]; rfl, hB⟩
 ·have hC := lh hc
  clear hc
  go_enter Tryz.func186, Tryz.ntmps186
  go_wp2_with fail
  go_loopw [6, 14] (fun a k wr => ∃ i r1 : Nat, i ≤ l.length ∧ k = .int .i64 i ∧ a = .int .u32 r1 ∧ r1 < 4294967296 ∧ Hid (r1 = foldT (4294967295 - s) (l.take i)) ∧ wr.cell? ⟨w.heap.size, 0, none⟩ = some (.func (.func 197) #[] #[.pointer (some ⟨w.heap.size, 0, none⟩)]) ∧ Below w.heap.size w wr) (fun _ k _ => l.length + 1 - (intOf k).toNat)
  case atStart => exact ⟨0, 4294967295 - s, by omega, rfl, by rw [not32 s hs], by omega, rfl, by simp [go_sem], bZ _ _⟩
  case round =>
   obtain ⟨i, r1, hi, rfl, rfl, hr1, hT, hcl, hB⟩ := hrel
   by_cases hlt : i < l.length
   ·have hlt' : (i : Int) < (l.length : Int) := by omega
    have hx := hl.at i hlt
    have hstep := lh (foldT_step (4294967295 - s) l i hlt)
    have hc : wr.cell? ⟨g, off + i, none⟩ = some (.int .u64 (l.getD i 0 : Nat)) := by rw [(bcell hB).1 _ _ hg]; exact hC.out i hlt
    have hO := lh (turn_any 64 r1 (l.getD i 0) wr w.heap.size (by omega) hr1 hx hcl)
    generalize hy : l.getD i 0 = y at *
    go_wp2_with fail
    refine hO.out.mono ?_
    rintro e w2 ⟨rfl, rfl⟩
    go_wp2_with fail
    go_roundw
    case rel => exact ⟨i + 1, turnN 64 r1 y, by omega, by go_num, rfl, turnN_lt 64 r1 y hr1, by rw [hstep.out, ← hT.out]; rfl, hcl, hB⟩
    case measure => simp [intOf]; omega
   ·obtain rfl : i = l.length := by omega
    have hT' : r1 = foldT (4294967295 - s) l := by rw [hT.out, List.take_of_length_le (Nat.le_refl _)]
    replace hT' := lh hT'
    clear hT
    go_wp2_with fail
    go_ret
    exact ⟨by rw [hout.out, ← hT'.out, ← not32 r1 hr1]; rfl, hB⟩
theorem of_any (v : Value) (l : List Nat) (w : World) (hl : WL l) (hlen : l.length ≤ 1000) (hv : SL w v l) :
 Calls Tryz.prog 157 #[v] w fun e w' => e = .returned (.int .u32 (moreN 0 l : Nat)) ∧ Below w.heap.size w w' := by
 have hM := lh (more_any 0 v l w (by omega) hl hlen hv)
 clear hv
 go_enter Tryz.func157, Tryz.ntmps157
 go_wp2_with fail
 refine hM.out.mono ?_
 rintro e w2 ⟨rfl, hb⟩
 go_wp2_with fail
 go_ret
 exact ⟨rfl, hb⟩
theorem refOf_any (v : Value) (l : List Nat) (w : World) (hl : WL l) (hlen : l.length ≤ 1000) (hv : SL w v l) :
 Calls Tryz.prog 87 #[v] w fun e w' => e = .returned (.int .u32 (moreN 0 l : Nat)) ∧ Below w.heap.size w w' := by
 have hM := lh (refMore_any 0 v l w (by omega) hl hlen hv)
 clear hv
 go_enter Tryz.func87, Tryz.ntmps87
 go_wp2_with fail
 refine hM.out.mono ?_
 rintro e w2 ⟨rfl, hb⟩
 go_wp2_with fail
 go_ret
 exact ⟨rfl, hb⟩
end Go.Proofs.YtkkbngcgphlikaaGreatDoor
end
section
namespace Go.Proofs.YtkkbngcgphlikaaGreatDoor
section
variable {P : Program} {L : List Oper} {Q : Exit → Act → World → Prop} {md : Region.Mode} {S : World → Prop}
theorem takeL (i : Nat) {o : Oper} {v : Value} {fuel : Nat} {listed : Array Bool} {a : Act} {w : World} (hi : L[i]? = some o)
 (hs : Region.noSelect L.toArray = true) (hf : Region.free md L.toArray listed i = true) (hr : (Region.ready md L.toArray listed).contains i = true)
 (hQ : ∀ c a w, Q (.panic c) (a.put o.dst v) w → Q (.panic c) a w) (hw : Region.wanted o (yielded L.toArray a.tmps) = true) (hS : S w)
 (hy : ∀ w, S w → (execOp a.eval o).run P w = .ok (.value v) w)
 (h : wpAnyH P md L.toArray Q S fuel (listed.setIfInBounds i true) (a.put o.dst v) w) : wpAnyH P md L.toArray Q S (fuel + 1) listed a w :=
 wpAnyH_take (by simpa using hi) hs hf hr hQ (.inl ⟨hw, hy⟩) hS h
theorem idleL (i : Nat) {o : Oper} {fuel : Nat} {listed : Array Bool} {a : Act} {w : World} (hi : L[i]? = some o)
 (hs : Region.noSelect L.toArray = true) (hf : Region.free md L.toArray listed i = true) (hr : (Region.ready md L.toArray listed).contains i = true)
 (hQ : ∀ c a w, Q (.panic c) (a.put o.dst undef) w → Q (.panic c) a w) (hw : Region.wanted o (yielded L.toArray a.tmps) = false) (hS : S w)
 (h : wpAnyH P md L.toArray Q S fuel (listed.setIfInBounds i true) (a.put o.dst undef) w) : wpAnyH P md L.toArray Q S (fuel + 1) listed a w :=
 wpAnyH_take (by simpa using hi) hs hf hr hQ (.inr ⟨hw, rfl⟩) hS h
theorem oneL (i : Nat) {o : Oper} {fuel : Nat} {listed : Array Bool} {a : Act} {w : World} (hi : L[i]? = some o) (hr : Region.ready md L.toArray listed = [i])
 (h : ∀ K' : Act → World → Prop, Shut (∀ a w, S w → (S w → wpAnyH P md L.toArray Q S fuel (listed.setIfInBounds i true) a w) → K' a w) → if Region.wanted o (yielded L.toArray a.tmps) = true then Oper.wp P o a w K' Q else K' (a.put o.dst undef) w) :
 wpAnyH P md L.toArray Q S (fuel + 1) listed a w :=
 wpAnyH_ready hr (by simp) (AllReadyH.cons (by simpa using hi) h AllReadyH.nil)
theorem twoL (i j : Nat) {o o' : Oper} {fuel : Nat} {listed : Array Bool} {a : Act} {w : World} (hi : L[i]? = some o) (hj : L[j]? = some o') (hr : Region.ready md L.toArray listed = [i, j])
 (h : ∀ K' : Act → World → Prop, Shut (∀ a w, S w → (S w → wpAnyH P md L.toArray Q S fuel (listed.setIfInBounds i true) a w) → K' a w) → if Region.wanted o (yielded L.toArray a.tmps) = true then Oper.wp P o a w K' Q else K' (a.put o.dst undef) w)
 (h' : ∀ K' : Act → World → Prop, Shut (∀ a w, S w → (S w → wpAnyH P md L.toArray Q S fuel (listed.setIfInBounds j true) a w) → K' a w) → if Region.wanted o' (yielded L.toArray a.tmps) = true then Oper.wp P o' a w K' Q else K' (a.put o'.dst undef) w) :
 wpAnyH P md L.toArray Q S (fuel + 1) listed a w :=
 wpAnyH_ready hr (by simp) (AllReadyH.cons (by simpa using hi) h (AllReadyH.cons (by simpa using hj) h' AllReadyH.nil))
end
end Go.Proofs.YtkkbngcgphlikaaGreatDoor
end
section
namespace Go.Proofs.YtkkbngcgphlikaaGreatDoor
section
variable {P : Program} {ops : Array Oper} {Q : Exit → Act → World → Prop}
theorem noDefer_spec {ops : Array Oper} (h : ops.all (fun o => match o.op with | .defer _ => false | _ => true) = true) : ∀ (i : Nat) (o : Oper), ops[i]? = some o → ∀ c, o.op ≠ .defer c := by
 intro i o hi c hc
 rw [Array.all_eq_true_iff_forall_mem] at h
 have := h o (Array.mem_of_getElem? hi)
 rw [hc] at this
 cases this
theorem oper_wr {l n : Nat} {o : Oper} {a : Act} {w : World} {K K' : Act → World → Prop} (hd : ∀ c, o.op ≠ .defer c) (hK : ∀ a w, K a w → K' a w) (hq : ¬ LetsOut Q)
 (h : o.wp P a w K Q) : o.wpIn (Fence.wide.inRound l) n P a w K' Q := by
 refine ⟨fun _ _ => trivial, ?_⟩
 rw [Oper.semAt_plain _ _ _ hd]
 unfold Oper.wp at h
 generalize (execOp a.eval o).run P w = r at *
 cases r with
 | ok x w' =>
   cases x <;> simp only [Oper.upon, Oper.uponIn] at h ⊢
   case value v => exact hK _ _ h
   case skip => exact hK _ _ h
   case «defer» d => exact hK _ _ h
   case enter f args =>
    have h2 : CallsIn Fence.wide (n - 1) P f args w' _ := callsIn_wide.2 h
    refine ⟨fun h => (by cases h), CallsIn.mono (F := Fence.wide) h2 (fun e w'' he => by cases e <;> first | exact hK _ _ he | exact he)⟩
   case row row args =>
    refine ⟨fun h => (by cases h), fun c cs hroom => ?_⟩
    obtain ⟨v, w'', r, s⟩ := h c cs
    exact ⟨v, w'', hK _ _ r, stepsIn_wide.2 s⟩
 | halt x w' => cases x <;> simp only [Oper.upon, Oper.uponIn] at h ⊢ <;> exact h
theorem wpOps_wr {l n : Nat} (hd : ∀ (i : Nat) (o : Oper), ops[i]? = some o → ∀ c, o.op ≠ .defer c) (hq : ¬ LetsOut Q) :
 ∀ (is : List Nat) (a : Act) (w : World), wpOps P ops Q is a w → wpOpsIn (Fence.wide.inRound l) n P ops Q is a w
 | [], a, w, h => h
 | i :: rest, a, w, h => by
   unfold wpOpsIn
   unfold wpOps at h
   cases ho : ops[i]? with
   | none => simp only [ho] at h ⊢; exact wpOps_wr hd hq rest a w h
   | some o =>
     simp only [ho] at h ⊢
     split
     ·rename_i hw
      rw [if_pos hw] at h
      rcases h with h | ⟨_, h⟩
      ·exact oper_wr (hd i o ho) (fun a w => wpOps_wr hd hq rest a w) hq h
      ·exact (hq h).elim
     ·rename_i hw
      rw [if_neg hw] at h
      exact ⟨fun _ _ => trivial, wpOps_wr hd hq rest _ w h⟩
theorem wpIn_region_held_wr {l n id : Nat} {S : World → Prop} {a : Act} {w : World} (hm : P.follows .mixedOrders = true)
 (hd : ops.all (fun o => match o.op with | .defer _ => false | _ => true) = true) (hq : ¬ LetsOut Q) (hS : S w.drew)
 (h : S w.drew → wpAnyH P .any ops Q S ops.size (Array.replicate ops.size false) a w.drew) : (Code.region id ops true).wpIn (Fence.wide.inRound l) n P Q a w :=
 wpIn_region_draw fun t => by
  simp only [Region.schedule, hm, Bool.true_or, if_true]
  exact wpOps_wr (noDefer_spec hd) hq _ _ _ (wpAny_sound ops.size t _ a _ (wpAny_of_held _ _ _ _ (h hS)))
end
end Go.Proofs.YtkkbngcgphlikaaGreatDoor
end
section
namespace Go.Proofs.YtkkbngcgphlikaaGreatDoor
section
variable {P : Program} {ops : Array Oper} {Q : Exit → Act → World → Prop} {md : Region.Mode} {S : World → Prop}
def wpAnyS (P : Program) (md : Region.Mode) (ops : Array Oper) (Q : Exit → Act → World → Prop) (S : World → Prop) (n : Nat) : Nat → Array Bool → Act → World → Prop
 | 0, listed, a, w => Region.ready md ops listed = [] ∧ Q .normal a w
 | fuel + 1, listed, a, w =>
   (Region.ready md ops listed = [] → Q .normal a w) ∧
   ∀ i ∈ Region.ready md ops listed, wpOp P ops Q i (fun a' w' => (i < n → S w') ∧ wpAnyS P md ops Q S n fuel (listed.setIfInBounds i true) a' w') a w
theorem wpAny_of_S {n : Nat} : ∀ (fuel : Nat) (listed : Array Bool) (a : Act) (w : World), wpAnyS P md ops Q S n fuel listed a w → wpAny P md ops Q fuel listed a w
 | 0, _, _, _, h => h
 | fuel + 1, _, _, _, h => ⟨h.1, fun i hi => wpOp_mono (fun a' w' h' => wpAny_of_S fuel _ a' w' h'.2) (h.2 i hi)⟩
structure TailAt (md : Region.Mode) (ops : Array Oper) (n : Nat) : Prop where
 sink : Region.sinkB md ops n = true
 chain : Region.chainB md ops n = true
 lt : n < ops.size
theorem tailAt {n : Nat} (h : (Region.sinkB md ops n && Region.chainB md ops n && decide (n < ops.size)) = true) : TailAt md ops n := by
 simp only [Bool.and_eq_true, decide_eq_true_eq] at h
 exact ⟨h.1.1, h.1.2, h.2⟩
theorem wpAnyS_first {n i : Nat} {oi : Oper} {v : Value} (T : TailAt md ops n) (hin : i < n) (hi : ops[i]? = some oi) (hsel : ∀ (j : Nat) (o : Oper) cs b, ops[j]? = some o → o.op ≠ .select cs b)
 (hQ : ∀ c a w, Q (.panic c) (a.put oi.dst v) w → Q (.panic c) a w) :
 ∀ (fuel : Nat) (listed : Array Bool) (a : Act) (w : World), HeadInv md ops n listed →
   (∀ j oj, ops[j]? = some oj → j ≠ i → listed.getD j true = false → (∀ e ∈ oj.after, Region.binds md e = true → e.on ≠ i) → oi.apart ops oj = true) →
   i ∈ Region.ready md ops listed → YieldsIf P ops S oi v a → S w →
   wpAnyS P md ops Q S n fuel (listed.setIfInBounds i true) (a.put oi.dst v) w → wpAnyS P md ops Q S n (fuel + 1) listed a w := by
 intro fuel
 induction fuel with
 | zero =>
   intro listed a w inv _ hr hy hS H
   refine ⟨fun h => (by rw [h] at hr; cases hr), fun j hj => ?_⟩
   by_cases hji : j = i
   ·subst hji; exact hy.wpOp hi hS ⟨fun _ => hS, H⟩
   ·have := ready_mono hj hji
    rw [H.1] at this
    cases this
 | succ fuel ih =>
   intro listed a w inv hfree hr hy hS H
   refine ⟨fun h => (by rw [h] at hr; cases hr), fun j hj => ?_⟩
   by_cases hji : j = i
   ·subst hji; exact hy.wpOp hi hS ⟨fun _ => hS, H⟩
   ·have hjn : j < n := by
     rcases Nat.lt_or_ge j n with h | h
     ·exact h
     ·exact absurd hj (tail_waits T.sink T.chain T.lt inv (n - i) i rfl hin (mem_ready.1 hr).1 j h)
    have h1 := H.2 j (ready_mono hj hji)
    obtain ⟨hjun, oj, hoj, hall⟩ := mem_ready.1 hj
    have hnot : ∀ e ∈ oj.after, Region.binds md e = true → e.on ≠ i := fun e he hb heq => by
     have h1 := hall e he hb
     have h0 := (mem_ready.1 hr).1
     rw [heq] at h1
     rcases Nat.lt_or_ge i listed.size with h' | h'
     ·simp [h'] at h0 h1; rw [h0] at h1; cases h1
     ·simp [Array.getElem?_eq_none h'] at h1
    have h2 := wpOp_putIf hoj (hfree j oj hoj hji hjun hnot) (fun cs b => hsel i oi cs b hi) (fun cs b => hsel j oj cs b hoj) hQ hy h1
    have hfree' : ∀ k ok, ops[k]? = some ok → k ≠ i → (listed.setIfInBounds j true).getD k true = false →
     (∀ e ∈ ok.after, Region.binds md e = true → e.on ≠ i) → oi.apart ops ok = true := fun k ok hk hki hun hno => by
     refine hfree k ok hk hki ?_ hno
     by_cases hjk : j = k
     ·subst hjk; exact hjun
     ·rw [getD_set_ne true hjk] at hun; exact hun
    refine wpOp_mono (fun a' w' h3 => ⟨fun _ => h3.2.1 hjn, ih (listed.setIfInBounds j true) a' w' (inv.set hj hjn) hfree' (ready_mono hr (Ne.symm hji)) h3.1 (h3.2.1 hjn) ?_⟩) h2
    rw [Array.setIfInBounds_comm _ _ hji]
    exact h3.2.2
theorem wpAnyS_done {n : Nat} {listed : Array Bool} {a : Act} {w : World} (hr : Region.ready md ops listed = []) (h : Q .normal a w) :
 ∀ fuel, wpAnyS P md ops Q S n fuel listed a w
 | 0 => ⟨hr, h⟩
 | _ + 1 => ⟨fun _ => h, by rw [hr]; simp⟩
theorem wp_region_tail {n id : Nat} {a : Act} {w : World} (hm : P.follows .mixedOrders = true) (hS : S w.drew)
 (h : S w.drew → HeadInv .any ops n (Array.replicate ops.size false) → wpAnyS P .any ops Q S n ops.size (Array.replicate ops.size false) a w.drew) (hn : n < ops.size) : (Code.region id ops true).wp P Q a w :=
 wp_region_any hm (wpAny_of_S _ _ _ _ (h hS ⟨by simp, fun j oj _ hl => (by rw [getD_replicate_false] at hl; cases hl), fun t _ ht => getD_in (by simpa using ht) (getD_replicate_false _ _)⟩))
theorem wpIn_region_tail_wr {l r n id : Nat} {a : Act} {w : World} (hm : P.follows .mixedOrders = true) (hd : ops.all (fun o => match o.op with | .defer _ => false | _ => true) = true) (hq : ¬ LetsOut Q) (hS : S w.drew)
 (h : S w.drew → HeadInv .any ops n (Array.replicate ops.size false) → wpAnyS P .any ops Q S n ops.size (Array.replicate ops.size false) a w.drew) (hn : n < ops.size) : (Code.region id ops true).wpIn (Fence.wide.inRound l) r P Q a w :=
 wpIn_region_draw fun t => by
  simp only [Region.schedule, hm, Bool.true_or, if_true]
  exact wpOps_wr (noDefer_spec hd) hq _ _ _ (wpAny_sound ops.size t _ a _ (wpAny_of_S _ _ _ _ (h hS ⟨by simp, fun j oj _ hl => (by rw [getD_replicate_false] at hl; cases hl), fun t _ ht => getD_in (by simpa using ht) (getD_replicate_false _ _)⟩)))
end
section
variable {P : Program} {L : List Oper} {Q : Exit → Act → World → Prop} {md : Region.Mode} {S : World → Prop} {n : Nat}
theorem takeS (i : Nat) {o : Oper} {v : Value} {fuel : Nat} {listed : Array Bool} {a : Act} {w : World} (T : TailAt md L.toArray n) (inv : HeadInv md L.toArray n listed) (hin : i < n) (hi : L[i]? = some o)
 (hs : Region.noSelect L.toArray = true) (hf : Region.free md L.toArray listed i = true) (hr : (Region.ready md L.toArray listed).contains i = true)
 (hQ : ∀ c a w, Q (.panic c) (a.put o.dst v) w → Q (.panic c) a w) (hw : Region.wanted o (yielded L.toArray a.tmps) = true) (hS : S w)
 (hy : ∀ w, S w → (execOp a.eval o).run P w = .ok (.value v) w)
 (h : HeadInv md L.toArray n (listed.setIfInBounds i true) → wpAnyS P md L.toArray Q S n fuel (listed.setIfInBounds i true) (a.put o.dst v) w) : wpAnyS P md L.toArray Q S n (fuel + 1) listed a w :=
 have hr' : i ∈ Region.ready md L.toArray listed := by simpa using hr
 wpAnyS_first T hin (by simpa using hi) (Region.noSelect_spec hs) hQ fuel listed a w inv (Region.free_spec (by simpa using hi) hf) hr' (.inl ⟨hw, hy⟩) hS (h (inv.set hr' hin))
theorem oneS (i : Nat) {o : Oper} {fuel : Nat} {listed : Array Bool} {a : Act} {w : World} (inv : HeadInv md L.toArray n listed) (hin : i < n) (hi : L[i]? = some o) (hr : Region.ready md L.toArray listed = [i])
 (h : ∀ K' : Act → World → Prop, Shut (∀ a w, S w → (S w → HeadInv md L.toArray n (listed.setIfInBounds i true) → wpAnyS P md L.toArray Q S n fuel (listed.setIfInBounds i true) a w) → K' a w) → if Region.wanted o (yielded L.toArray a.tmps) = true then Oper.wp P o a w K' Q else K' (a.put o.dst undef) w) :
 wpAnyS P md L.toArray Q S n (fuel + 1) listed a w := by
 refine ⟨fun h0 => (by rw [hr] at h0; cases h0), fun j hj => ?_⟩
 rw [hr, List.mem_singleton] at hj
 subst hj
 exact wpOp_step (by simpa using hi) (fun K' hK => h K' (fun a w hS hW => hK a w ⟨fun _ => hS, hW hS (inv.set (by rw [hr]; simp) hin)⟩))
theorem lastS (i : Nat) {o : Oper} {fuel : Nat} {listed : Array Bool} {a : Act} {w : World} (hi : L[i]? = some o) (hin : n ≤ i) (hr : Region.ready md L.toArray listed = [i])
 (h : ∀ K' : Act → World → Prop, Shut (∀ a w, wpAnyS P md L.toArray Q S n fuel (listed.setIfInBounds i true) a w → K' a w) → if Region.wanted o (yielded L.toArray a.tmps) = true then Oper.wp P o a w K' Q else K' (a.put o.dst undef) w) :
 wpAnyS P md L.toArray Q S n (fuel + 1) listed a w := by
 refine ⟨fun h0 => (by rw [hr] at h0; cases h0), fun j hj => ?_⟩
 rw [hr, List.mem_singleton] at hj
 subst hj
 exact wpOp_step (by simpa using hi) (fun K' hK => h K' (fun a w hW => hK a w ⟨fun h => absurd h (by omega), hW⟩))
end
end Go.Proofs.YtkkbngcgphlikaaGreatDoor
end
section
namespace Go.Proofs.YtkkbngcgphlikaaGreatDoor
section
variable {P : Program} {L : List Oper} {Q : Exit → Act → World → Prop} {md : Region.Mode} {S : World → Prop} {n : Nat}
theorem takeQ (i : Nat) {o : Oper} {v : Value} {fuel : Nat} {listed l' : Array Bool} {a a' : Act} {w : World} (h : wpAnyH P md L.toArray Q S fuel l' a' w)
 (hi : L[i]? = some o := by rfl)
 (hs : Region.noSelect L.toArray = true := by kernel_rfl) (hf : Region.free md L.toArray listed i = true := by kernel_rfl) (hr : (Region.ready md L.toArray listed).contains i = true := by kernel_rfl)
 (hQ : ∀ c a w, Q (.panic c) (a.put o.dst v) w → Q (.panic c) a w := by (intro _ _ _ h; exact h)) (hw : Region.wanted o (yielded L.toArray a.tmps) = true := by rfl) (hS : S w := by assumption)
 (hy : ∀ w, S w → (execOp a.eval o).run P w = .ok (.value v) w := by (intro w hSw; (try dsimp only at hSw); go_simp <;> with_reducible rfl))
 (ha : a.put o.dst v = a' := by ((try simp only [Act.put,sA,sB,sC]); try rfl))
 (hl : listed.setIfInBounds i true = l' := by ((try simp only [List.setIfInBounds_toArray, List.set_cons_zero, List.set_cons_succ]); try rfl)) : wpAnyH P md L.toArray Q S (fuel + 1) listed a w :=
 takeL i hi hs hf hr hQ hw hS hy (by rw [ha, hl]; exact h)
theorem takeV (i : Nat) {o : Oper} {v : Value} {fuel : Nat} {listed l' : Array Bool} {a a' : Act} {w : World} (h : wpAnyH P md L.toArray Q S fuel l' a' w)
 (hi : L[i]? = some o := by rfl)
 (hs : Region.noSelect L.toArray = true := by kernel_rfl) (hf : Region.free md L.toArray listed i = true := by kernel_rfl) (hr : (Region.ready md L.toArray listed).contains i = true := by kernel_rfl)
 (hQ : ∀ c a w, Q (.panic c) (a.put o.dst v) w → Q (.panic c) a w := by (intro _ _ _ h; exact h)) (hw : Region.wanted o (yielded L.toArray a.tmps) = true := by rfl) (hS : S w := by assumption)
 (hy : ∀ w, S w → (execOp a.eval o).run P w = .ok (.value v) w := by (intro w hSw; (try dsimp only at hSw); (try go_split_ands); go_simp <;> with_reducible rfl))
 (ha : a.put o.dst v = a' := by ((try simp only [Act.put,sA,sB,sC]); try rfl))
 (hl : listed.setIfInBounds i true = l' := by ((try simp only [List.setIfInBounds_toArray, List.set_cons_zero, List.set_cons_succ]); try rfl)) : wpAnyH P md L.toArray Q S (fuel + 1) listed a w :=
 takeL i hi hs hf hr hQ hw hS hy (by rw [ha, hl]; exact h)
theorem takeVS (i : Nat) {o : Oper} {v : Value} {fuel : Nat} {listed l' : Array Bool} {a a' : Act} {w : World} (inv : HeadInv md L.toArray n listed) (h : HeadInv md L.toArray n l' → wpAnyS P md L.toArray Q S n fuel l' a' w)
 (T : TailAt md L.toArray n := by exact (tailAt (by kernel_rfl))) (hin : i < n := by decide)
 (hi : L[i]? = some o := by rfl)
 (hs : Region.noSelect L.toArray = true := by kernel_rfl) (hf : Region.free md L.toArray listed i = true := by kernel_rfl) (hr : (Region.ready md L.toArray listed).contains i = true := by kernel_rfl)
 (hQ : ∀ c a w, Q (.panic c) (a.put o.dst v) w → Q (.panic c) a w := by (intro _ _ _ h; exact h)) (hw : Region.wanted o (yielded L.toArray a.tmps) = true := by rfl) (hS : S w := by assumption)
 (hy : ∀ w, S w → (execOp a.eval o).run P w = .ok (.value v) w := by (intro w hSw; (try dsimp only at hSw); (try go_split_ands); go_simp <;> with_reducible rfl))
 (ha : a.put o.dst v = a' := by ((try simp only [Act.put,sA,sB,sC]); try rfl))
 (hl : listed.setIfInBounds i true = l' := by ((try simp only [List.setIfInBounds_toArray, List.set_cons_zero, List.set_cons_succ]); try rfl)) : wpAnyS P md L.toArray Q S n (fuel + 1) listed a w :=
 takeS i T inv hin hi hs hf hr hQ hw hS hy (fun q => by rw [ha, hl]; exact h (by rw [← hl]; exact q))
theorem takeU (i : Nat) {o : Oper} {v : Value} {fuel : Nat} {listed l' : Array Bool} {a a' : Act} {w : World} (h : wpAnyH P md L.toArray Q S fuel l' a' w)
 (hi : L[i]? = some o := by rfl)
 (hs : Region.noSelect L.toArray = true := by kernel_rfl) (hf : Region.free md L.toArray listed i = true := by kernel_rfl) (hr : (Region.ready md L.toArray listed).contains i = true := by kernel_rfl)
 (hQ : ∀ c a w, Q (.panic c) (a.put o.dst v) w → Q (.panic c) a w := by (intro _ _ _ h; exact h)) (hw : Region.wanted o (yielded L.toArray a.tmps) = true := by rfl) (hS : S w := by assumption)
 (hy : ∀ w, S w → (execOp a.eval o).run P w = .ok (.value v) w := by (intro w hSw; (subst hSw); go_simp <;> with_reducible rfl))
 (ha : a.put o.dst v = a' := by ((try simp only [Act.put,sA,sB,sC]); try rfl))
 (hl : listed.setIfInBounds i true = l' := by ((try simp only [List.setIfInBounds_toArray, List.set_cons_zero, List.set_cons_succ]); try rfl)) : wpAnyH P md L.toArray Q S (fuel + 1) listed a w :=
 takeL i hi hs hf hr hQ hw hS hy (by rw [ha, hl]; exact h)
theorem takeUS (i : Nat) {o : Oper} {v : Value} {fuel : Nat} {listed l' : Array Bool} {a a' : Act} {w : World} (inv : HeadInv md L.toArray n listed) (h : HeadInv md L.toArray n l' → wpAnyS P md L.toArray Q S n fuel l' a' w)
 (T : TailAt md L.toArray n := by exact (tailAt (by kernel_rfl))) (hin : i < n := by decide)
 (hi : L[i]? = some o := by rfl)
 (hs : Region.noSelect L.toArray = true := by kernel_rfl) (hf : Region.free md L.toArray listed i = true := by kernel_rfl) (hr : (Region.ready md L.toArray listed).contains i = true := by kernel_rfl)
 (hQ : ∀ c a w, Q (.panic c) (a.put o.dst v) w → Q (.panic c) a w := by (intro _ _ _ h; exact h)) (hw : Region.wanted o (yielded L.toArray a.tmps) = true := by rfl) (hS : S w := by assumption)
 (hy : ∀ w, S w → (execOp a.eval o).run P w = .ok (.value v) w := by (intro w hSw; (subst hSw); go_simp <;> with_reducible rfl))
 (ha : a.put o.dst v = a' := by ((try simp only [Act.put,sA,sB,sC]); try rfl))
 (hl : listed.setIfInBounds i true = l' := by ((try simp only [List.setIfInBounds_toArray, List.set_cons_zero, List.set_cons_succ]); try rfl)) : wpAnyS P md L.toArray Q S n (fuel + 1) listed a w :=
 takeS i T inv hin hi hs hf hr hQ hw hS hy (fun q => by rw [ha, hl]; exact h (by rw [← hl]; exact q))
theorem idleQ (i : Nat) {o : Oper} {fuel : Nat} {listed l' : Array Bool} {a a' : Act} {w : World} (h : wpAnyH P md L.toArray Q S fuel l' a' w)
 (hi : L[i]? = some o := by rfl)
 (hs : Region.noSelect L.toArray = true := by kernel_rfl) (hf : Region.free md L.toArray listed i = true := by kernel_rfl) (hr : (Region.ready md L.toArray listed).contains i = true := by kernel_rfl)
 (hQ : ∀ c a w, Q (.panic c) (a.put o.dst undef) w → Q (.panic c) a w := by (intro _ _ _ h; exact h)) (hw : Region.wanted o (yielded L.toArray a.tmps) = false := by rfl) (hS : S w := by assumption)
 (ha : a.put o.dst undef = a' := by ((try simp only [Act.put,sA,sB,sC]); try rfl))
 (hl : listed.setIfInBounds i true = l' := by ((try simp only [List.setIfInBounds_toArray, List.set_cons_zero, List.set_cons_succ]); try rfl)) : wpAnyH P md L.toArray Q S (fuel + 1) listed a w :=
 idleL i hi hs hf hr hQ hw hS (by rw [ha, hl]; exact h)
end
end Go.Proofs.YtkkbngcgphlikaaGreatDoor
end
section
namespace Go.Proofs.YtkkbngcgphlikaaGreatDoor
def kN (x : Nat) : Nat := x % 8
def cN (x : Nat) : Nat := x / 8 % 4
def lnN (x : Nat) : Nat := x / 32 % 64
def mN (x : Nat) : Nat := x / 2048 % 8192
def bN (x : Nat) : Nat := x / 16777216 % 256
def RightN (x : Nat) : Prop := x < 4294967296 ∧ (((kN x = 0 ∨ kN x = 3) ∧ cN x = 0 ∧ lnN x = 0 ∧ mN x = 0 ∧ bN x = 0) ∨
 (kN x = 1 ∧ lnN x = 0 ∧ mN x = 0 ∧ ((cN x = 0 ∧ bN x < 256) ∨ (cN x = 1 ∧ bN x < 16) ∨ (cN x = 2 ∧ bN x < 4))) ∨
 (kN x = 2 ∧ cN x = 0 ∧ lnN x = 0 ∧ bN x = 0 ∧ 1 ≤ mN x ∧ mN x ≤ 8191) ∨ (kN x = 4 ∧ cN x = 0 ∧ bN x = 0 ∧ lnN x < 64 ∧ mN x ≤ 7))
instance (x : Nat) : Decidable (RightN x) := by unfold RightN; infer_instance
def okN (x : Nat) : Bool := decide (RightN x)
theorem okN_t {x : Nat} (h : okN x = true) : RightN x := of_decide_eq_true h
theorem parts_bd (x : Nat) : kN x < 8 ∧ cN x < 4 ∧ lnN x < 64 ∧ mN x < 8192 ∧ bN x < 256 := by
 unfold kN cN lnN mN bN; omega
def stepT (x n : Nat) : Option Nat := if decide (kN x = 3) = decide (0 < n) then some (if kN x = 3 then n - 1 else if kN x = 2 then mN x - 1 else n) else none
def runT (t : List Nat) : Nat → Option Nat
 | 0 => some 0
 | k + 1 => (runT t k).bind (stepT (t.getD k 0))
def rightT (t : List Nat) : Bool := t.all okN && (runT t t.length == some 0)
theorem all_at {t : List Nat} (h : t.all okN = true) {k : Nat} (hk : k < t.length) : okN (t.getD k 0) = true := by
 rw [List.getD_eq_getElem?_getD, List.getElem?_eq_getElem hk]
 exact List.all_eq_true.1 h _ (List.getElem_mem hk)
theorem runT_app (t u : List Nat) : ∀ k, k ≤ t.length → runT (t ++ u) k = runT t k
 | 0, _ => rfl
 | k + 1, hk => by
   simp only [runT]
   rw [runT_app t u k (by omega)]
   congr 2
   simp only [List.getD_eq_getElem?_getD]
   rw [List.getElem?_append_left (by omega)]
theorem runT_app2 (t u : List Nat) (h : runT t t.length = some 0) : ∀ j, runT (t ++ u) (t.length + j) = runT u j
 | 0 => by rw [Nat.add_zero, runT_app t u _ (Nat.le_refl _), h]; rfl
 | j + 1 => by
   rw [← Nat.add_assoc]
   simp only [runT]
   rw [runT_app2 t u h j]
   congr 2
   simp only [List.getD_eq_getElem?_getD]
   rw [List.getElem?_append_right (by omega)]
   congr 2
   omega
theorem rightT_t {t : List Nat} (h : rightT t = true) : t.all okN = true ∧ runT t t.length = some 0 := by
 simp only [rightT, Bool.and_eq_true, beq_iff_eq] at h; exact h
theorem rightT_mk {t : List Nat} (h1 : t.all okN = true) (h2 : runT t t.length = some 0) : rightT t = true := by
 simp only [rightT, Bool.and_eq_true, beq_iff_eq]; exact ⟨h1, h2⟩
theorem rightT_app {t u : List Nat} (h1 : rightT t = true) (h2 : rightT u = true) : rightT (t ++ u) = true := by
 obtain ⟨a1, b1⟩ := rightT_t h1
 obtain ⟨a2, b2⟩ := rightT_t h2
 refine rightT_mk (by rw [List.all_append, a1, a2]; rfl) ?_
 rw [List.length_append, runT_app2 t u b1, b2]
theorem rightT_one {x : Nat} (h : okN x = true) (h2 : ¬ kN x = 2) (h3 : ¬ kN x = 3) : rightT [x] = true := by
 refine rightT_mk (by simp [h]) ?_
 simp [runT, stepT, h2, h3]
theorem runT_huge (x n : Nat) (hk : kN x = 2) (hm : mN x = n + 1) : ∀ j, j ≤ n → runT (x :: List.replicate n 3) (j + 1) = some (n - j)
 | 0, _ => by simp [runT, stepT, hk, hm]
 | j + 1, hj => by
   rw [runT, runT_huge x n hk hm j (by omega)]
   have e : (x :: List.replicate n 3).getD (j + 1) 0 = 3 := by
    simp only [List.getD_eq_getElem?_getD, List.getElem?_cons_succ]
    rw [List.getElem?_replicate, if_pos (by omega)]
    rfl
   rw [e]
   have : kN 3 = 3 := rfl
   simp only [Option.bind_some, stepT, this]
   have h0 : 0 < n - j := by omega
   simp [h0]
   omega
theorem rightT_huge {x n : Nat} (h : okN x = true) (hk : kN x = 2) (hm : mN x = n + 1) : rightT (x :: List.replicate n 3) = true := by
 refine rightT_mk ?_ ?_
 ·rw [List.all_eq_true]
  intro y hy
  rcases List.mem_cons.1 hy with rfl | hy
  ·exact h
  ·have := List.eq_of_mem_replicate hy
   subst this
   decide
 ·have := runT_huge x n hk hm n (Nat.le_refl _)
  rw [List.length_cons, List.length_replicate, this, Nat.sub_self]
abbrev Bl := Nat × Nat × Nat
def mnN (c : Nat) : Nat := if c = 0 then 8 else if c = 1 then 4 else if c = 2 then 2 else 0
def blN (c : Nat) : Nat := if c = 0 then 4 else if c = 1 then 8 else if c = 2 then 16 else 0
def liveL (b m : Nat) : List Nat := (List.range m).filter b.testBit
def blksAt (i x : Nat) : List Bl := if kN x = 1 then (liveL (bN x) (mnN (cN x))).map (fun j => (i, j, blN (cN x))) else if kN x = 2 then [(i, 0, mN x * 32)] else []
def blksFrom : Nat → List Nat → List Bl
 | _, [] => []
 | o, x :: t => blksAt o x ++ blksFrom (o + 1) t
def blksT (t : List Nat) : List Bl := if t.all okN then blksFrom 0 t else []
theorem blksFrom_app : ∀ (o : Nat) (t u : List Nat), blksFrom o (t ++ u) = blksFrom o t ++ blksFrom (o + t.length) u
 | o, [], u => by simp [blksFrom]
 | o, x :: t, u => by
   simp only [List.cons_append, blksFrom, blksFrom_app (o + 1) t u, List.append_assoc, List.length_cons]
   rw [show o + 1 + t.length = o + (t.length + 1) by omega]
theorem blksFrom_take (t : List Nat) (k : Nat) (hk : k < t.length) : blksFrom 0 (t.take (k + 1)) = blksFrom 0 (t.take k) ++ blksAt k (t.getD k 0) := by
 rw [List.take_succ_eq_append_getElem hk, blksFrom_app]
 congr 1
 simp only [blksFrom, List.append_nil, Nat.zero_add, List.length_take]
 rw [Nat.min_eq_left (by omega), List.getD_eq_getElem?_getD, List.getElem?_eq_getElem hk]
 rfl
theorem liveL_len (b m : Nat) : (liveL b m).length ≤ m := by
 unfold liveL
 refine Nat.le_trans (List.length_filter_le _ _) ?_
 rw [List.length_range]; exact Nat.le_refl _
theorem mnN_le (c : Nat) : mnN c ≤ 8 := by unfold mnN; split <;> (try split) <;> (try split) <;> omega
theorem blksAt_len (i x : Nat) : (blksAt i x).length ≤ 8 := by
 unfold blksAt
 split
 ·rw [List.length_map]; exact Nat.le_trans (liveL_len _ _) (mnN_le _)
 ·split <;> simp
theorem blksFrom_len : ∀ (o : Nat) (t : List Nat), (blksFrom o t).length ≤ 8 * t.length
 | _, [] => by simp [blksFrom]
 | o, x :: t => by
   rw [blksFrom, List.length_append, List.length_cons]
   have := blksAt_len o x
   have := blksFrom_len (o + 1) t
   omega
end Go.Proofs.YtkkbngcgphlikaaGreatDoor
end
section
namespace Go.Proofs.YtkkbngcgphlikaaGreatDoor
abbrev St := Nat × Nat × Nat
abbrev gS (S : List St) (i : Nat) : St := S.getD i default
end Go.Proofs.YtkkbngcgphlikaaGreatDoor
end
section
namespace Go.Proofs.YtkkbngcgphlikaaGreatDoor
def hdW (t s : Nat) : Nat := t + 65536 * s + 18038886832455811072
def hdB (t s n : Int) : Bool := decide (1 ≤ t ∧ t ≤ 65535 ∧ 0 ≤ s ∧ s ≤ 4096 ∧ ¬ n = 0)
end Go.Proofs.YtkkbngcgphlikaaGreatDoor
end
