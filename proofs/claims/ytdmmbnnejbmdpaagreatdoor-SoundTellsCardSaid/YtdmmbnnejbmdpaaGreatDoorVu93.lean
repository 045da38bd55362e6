/-
  Part of the proof of SoundTells,SoundGiven.
-/
import Derived.Test.YtdmmbnnejbmdpaaGreatDoorVu91
import Derived.Test.YtdmmbnnejbmdpaaGreatDoorRows
import Derived.Laws.BitsAllLaws
import Derived.WalkLawsBesides
import Derived.WalkSpells
import Derived.Laws.EntriesVeiled
import Derived.Test.YtdmmbnnejbmdpaaGreatDoorVu90
set_option maxRecDepth 10000
set_option maxHeartbeats 2000000
set_option linter.unusedVariables false
set_option linter.unusedSimpArgs false
section
namespace Go.Proofs.YtdmmbnnejbmdpaaGreatDoor
open Go.RowKit
def stepN (r w : Nat) : Nat := if (r ^^^ w) % 2 = 1 then (r / 2) ^^^ 3988292384 else r / 2
def turnN : Nat → Nat → Nat → Nat
 | 0, r, _ => r
 | n + 1, r, w => turnN n (stepN r w) (w / 2)
theorem xor_lt32 {a b : Nat} (ha : a < 4294967296) (hb : b < 4294967296) : a ^^^ b < 4294967296 := Nat.xor_lt_two_pow (n := 32) ha hb
theorem stepN_lt (r w : Nat) (hr : r < 4294967296) : stepN r w < 4294967296 := by
 unfold stepN
 split
 ·exact xor_lt32 (by omega) (by omega)
 ·omega
theorem turnN_lt (n : Nat) : ∀ (r w : Nat), r < 4294967296 → turnN n r w < 4294967296 := by
 induction n with
 | zero => intro r w h; exact h
 | succ n ih => intro r w h; exact ih _ _ (stepN_lt r w h)
theorem turn_any (n : Nat) : ∀ (r x : Nat) (w : World) (g : Nat), n ≤ 64 → r < 4294967296 → x < 18446744073709551616 → w.cell? ⟨g, 0, none⟩ = some (.func (.func 140) #[] #[.pointer (some ⟨g, 0, none⟩)]) →
 Calls Tryz.prog 140 #[.int .u32 r, .int .u64 x, .int .i64 n, .pointer (some ⟨g, 0, none⟩)] w fun e w' => e = .returned (.int .u32 (turnN n r x : Nat)) ∧ w = w' := by
 induction n with
 | zero =>
   intro r x w g hn hr hx hg
   go_enter Tryz.func140, Tryz.ntmps140
   go_wp2_with fail
   go_ret
   exact ⟨rfl, rfl⟩
 | succ n ih =>
   intro r x w g hn hr hx hg
   have e1 : bits .xor .u64 (r : Int) (x : Int) = ((r ^^^ x : Nat) : Int) := u64_xor_nat r x (by omega) hx
   have hl := stepN_lt r x hr
   have hI := ih (stepN r x) (x / 2) w g (by omega) hl (by omega) hg
   have ht : turnN (n + 1) r x = turnN n (stepN r x) (x / 2) := rfl
   rw [ht]
   generalize turnN n (stepN r x) (x / 2) = res at hI ⊢
   clear ih ht
   rw [show ((x / 2 : Nat) : Int) = (x : Int) / 2 by omega] at hI
   have e0 : ((n + 1 : Nat) : Int) = (n : Int) + 1 := by omega
   have hq : ¬ (n : Int) + 1 = 0 := by omega
   rw [e0]
   clear e0
   have e2 : bits .and .u64 ((r ^^^ x : Nat) : Int) 1 = (((r ^^^ x) % 2 : Nat) : Int) := by
    rw [show (1 : Int) = ((1 : Nat) : Int) from rfl, u64_and_nat _ 1 (Nat.xor_lt_two_pow (n := 64) (by omega) hx) (by omega), Nat.and_one_is_mod]
   by_cases h : (r ^^^ x) % 2 = 1
   ·have hs : ((stepN r x : Nat) : Int) = bits .xor .u32 ((r : Int) / 2) 3988292384 := by
     unfold stepN
     rw [if_pos h, show (r : Int) / 2 = ((r / 2 : Nat) : Int) by omega]
     exact (u32_xor_nat (r / 2) 3988292384 (by omega) (by omega)).symm
    rw [hs] at hI
    replace hI := lh hI
    have hT : (bits .and .u64 (bits .xor .u64 (r : Int) (x : Int)) 1 == 1) = true := by rw [e1, e2, h]; rfl
    clear hs e1 e2 h hl
    go_enter Tryz.func140, Tryz.ntmps140
    go_wp2_with fail
    refine hI.out.mono ?_
    rintro e w' ⟨rfl, rfl⟩
    go_wp2_with fail
    go_ret
    exact ⟨rfl, rfl⟩
   ·have h0 : (r ^^^ x) % 2 = 0 := by omega
    have hs : ((stepN r x : Nat) : Int) = (r : Int) / 2 := by
     unfold stepN
     rw [if_neg h]
     omega
    rw [hs] at hI
    replace hI := lh hI
    have hT : (bits .and .u64 (bits .xor .u64 (r : Int) (x : Int)) 1 == 1) = false := by rw [e1, e2, h0]; rfl
    clear hs e1 e2 h h0 hl
    go_enter Tryz.func140, Tryz.ntmps140
    go_wp2_with fail
    refine hI.out.mono ?_
    rintro e w' ⟨rfl, rfl⟩
    go_wp2_with fail
    go_ret
    exact ⟨rfl, rfl⟩
end Go.Proofs.YtdmmbnnejbmdpaaGreatDoor
end
section
namespace Go.Proofs.YtdmmbnnejbmdpaaGreatDoor
theorem mod_step (x n : Nat) : x % 2 ^ (n + 1) = x % 2 ^ n + if x.testBit n then 2 ^ n else 0 := by
 rw [Nat.pow_succ, Nat.mod_mul, Nat.testBit_eq_decide_div_mod_eq]
 rcases Nat.mod_two_eq_zero_or_one (x / 2 ^ n) with h | h <;> simp [h]
end Go.Proofs.YtdmmbnnejbmdpaaGreatDoor
end
section
namespace Go.Proofs.YtdmmbnnejbmdpaaGreatDoor
open Go.RowKit
theorem bit_div (a p i : Nat) (hp : p = 2 ^ i) : a / p % 2 = (if a.testBit i then 1 else 0) := by
 subst hp
 rw [Nat.testBit_eq_decide_div_mod_eq]
 by_cases h : a / 2 ^ i % 2 = 1
 ·simp [h]
 ·simp [h]; omega
def pow31 (i : Nat) : Nat := if i < 31 then 2 ^ i else 2147483648
theorem pow31_bd (i : Nat) : 1 ≤ pow31 i ∧ pow31 i ≤ 2147483648 := by
 unfold pow31
 split
 ·rename_i h
  have := Nat.pow_le_pow_right (by omega : 2 > 0) (show i ≤ 31 by omega)
  have := Nat.one_le_two_pow (n := i)
  omega
 ·omega
theorem pow31_at (i : Nat) (h : i < 32) : pow31 i = 2 ^ i := by
 unfold pow31
 by_cases h2 : i < 31
 ·rw [if_pos h2]
 ·obtain rfl : i = 31 := by omega
  rfl
theorem pow31_next (i : Nat) (h : i < 31) : 2 * pow31 i = pow31 (i + 1) := by
 rw [pow31_at i (by omega), pow31_at (i + 1) (by omega), Nat.pow_succ, Nat.mul_comm]
theorem refXor_any (a b : Nat) (w : World) (ha : a < 4294967296) (hb : b < 4294967296) :
 Calls Tryz.prog 132 #[.int .u32 a, .int .u32 b] w fun e w' => e = .returned (.int .u32 (a ^^^ b : Nat)) ∧ Below w.heap.size w w' := by
 have hx : a ^^^ b < 4294967296 := xor_lt32 ha hb
 go_enter Tryz.func132, Tryz.ntmps132
 go_wp2_with fail
 go_loopw [5, 6, 7] (fun n p k wr => ∃ i : Nat, i ≤ 32 ∧ k = .int .i64 i ∧ n = .int .u32 ((a ^^^ b) % 2 ^ i : Nat) ∧ p = .int .u32 (pow31 i : Nat) ∧ Below w.heap.size w wr) (fun _ _ k _ => 33 - (intOf k).toNat)
 case atStart => exact ⟨0, by omega, rfl, by simp [Nat.mod_one], rfl, Below.refl _ _⟩
 case round =>
  obtain ⟨i, hi, rfl, rfl, rfl, hB⟩ := hrel
  by_cases hlt : i < 32
  ·have hstep := mod_step (a ^^^ b) i
   have hlast : (a ^^^ b) % 2 ^ (i + 1) ≤ a ^^^ b := Nat.mod_le _ _
   have hpa := pow31_at i hlt
   obtain ⟨p1, p2⟩ := pow31_bd i
   obtain ⟨_, p4⟩ := pow31_bd (i + 1)
   have da := bit_div a (pow31 i) i hpa
   have db := bit_div b (pow31 i) i hpa
   have hn : 31 ≤ i → pow31 (i + 1) = pow31 i := fun h => by unfold pow31; rw [if_neg (by omega), if_neg (by omega)]
   have hn2 : i < 31 → 2 * pow31 i = pow31 (i + 1) := fun h => pow31_next i h
   rw [Nat.testBit_xor] at hstep
   have hq : ¬ pow31 i = 0 := by omega
   have hlt' : (i : Int) < 32 := by omega
   have T : (((a : Int) / (pow31 i : Nat)) % 2 == ((b : Int) / (pow31 i : Nat)) % 2) = !(a.testBit i ^^ b.testBit i) := by
    rw [show (a : Int) / (pow31 i : Nat) % 2 = ((a / pow31 i % 2 : Nat) : Int) by omega, show (b : Int) / (pow31 i : Nat) % 2 = ((b / pow31 i % 2 : Nat) : Int) by omega, da, db]
    cases a.testBit i <;> cases b.testBit i <;> rfl
   clear da db
   generalize hG2 : (a ^^^ b) % 2 ^ (i + 1) = n2 at *
   generalize (a ^^^ b) % 2 ^ i = n at *
   rw [← hpa] at hstep
   clear hpa
   generalize hQ2 : pow31 (i + 1) = q2 at *
   generalize pow31 i = q at *
   replace hG2 := lh hG2
   replace hQ2 := lh hQ2
   cases hd : (a.testBit i ^^ b.testBit i)
   ·rw [hd] at T hstep
    simp only [Bool.not_false, Bool.false_eq_true, if_false, Nat.add_zero] at T hstep
    subst hstep
    by_cases h31 : i < 31
    ·have h31' : (i : Int) < 31 := by omega
     have hq2 := hn2 h31
     clear hn hn2
     go_wp2_with fail
     go_region
     all_goals (try go_wp2_with fail)
     go_roundw
     case rel => exact ⟨i + 1, by omega, by go_num, by rw [hG2.out], by rw [hQ2.out, ← hq2]; go_num, hB.drew⟩
     case measure => simp [intOf]; omega
    ·have h31' : ¬ (i : Int) < 31 := by omega
     have hq2 := hn (by omega)
     clear hn hn2
     go_wp2_with fail
     go_region
     all_goals (try go_wp2_with fail)
     go_roundw
     case rel => exact ⟨i + 1, by omega, by go_num, by rw [hG2.out], by rw [hQ2.out, hq2], hB.drew⟩
     case measure => simp [intOf]; omega
   ·rw [hd] at T hstep
    simp only [Bool.not_true, if_true] at T hstep
    by_cases h31 : i < 31
    ·have h31' : (i : Int) < 31 := by omega
     have hq2 := hn2 h31
     clear hn hn2
     go_wp2_with fail
     go_region
     all_goals (try go_wp2_with fail)
     go_roundw
     case rel => exact ⟨i + 1, by omega, by go_num, by rw [hG2.out, hstep]; go_num, by rw [hQ2.out, ← hq2]; go_num, hB.drew⟩
     case measure => simp [intOf]; omega
    ·have h31' : ¬ (i : Int) < 31 := by omega
     have hq2 := hn (by omega)
     clear hn hn2
     go_wp2_with fail
     go_region
     all_goals (try go_wp2_with fail)
     go_roundw
     case rel => exact ⟨i + 1, by omega, by go_num, by rw [hG2.out, hstep]; go_num, by rw [hQ2.out, hq2], hB.drew⟩
     case measure => simp [intOf]; omega
  ·obtain rfl : i = 32 := by omega
   rw [Nat.mod_eq_of_lt (show a ^^^ b < 2 ^ 32 from hx)]
   go_wp2_with fail
   go_ret
   exact ⟨rfl, hB⟩
theorem refOn_any (r x : Nat) (w : World) (hr : r < 4294967296) (hx : x < 18446744073709551616) :
 Calls Tryz.prog 115 #[.int .u32 r, .int .u64 x] w fun e w' => e = .returned (.int .u32 (turnN 64 r x : Nat)) ∧ Below w.heap.size w w' := by
 go_enter Tryz.func115, Tryz.ntmps115
 go_wp2_with fail
 go_loopw [0, 1, 5] (fun a b k wr => ∃ i r1 x1 : Nat, i ≤ 64 ∧ k = .int .i64 i ∧ a = .int .u32 r1 ∧ b = .int .u64 x1 ∧ r1 < 4294967296 ∧ x1 < 18446744073709551616 ∧ Hid (turnN (64 - i) r1 x1 = turnN 64 r x) ∧ Below w.heap.size w wr) (fun _ _ k _ => 65 - (intOf k).toNat)
 case atStart => exact ⟨0, r, x, by omega, rfl, rfl, rfl, hr, hx, rfl, Below.refl _ _⟩
 case round =>
  obtain ⟨i, r1, x1, hi, rfl, rfl, rfl, hr1, hx1, hT, hB⟩ := hrel
  by_cases hlt : i < 64
  ·have hlt' : (i : Int) < 64 := by omega
   have hl := stepN_lt r1 x1 hr1
   have hT2 : turnN (64 - (i + 1)) (stepN r1 x1) (x1 / 2) = turnN 64 r x := by
    rw [← hT.out, show 64 - i = (64 - (i + 1)) + 1 by omega]
    rfl
   replace hT2 := lh hT2
   clear hT
   have hodd : (r1 ^^^ x1) % 2 = (if r1 % 2 = x1 % 2 then 0 else 1) := by
    rw [show (r1 ^^^ x1) % 2 = (r1 % 2 ^^^ x1 % 2) from Nat.xor_mod_two_pow (n := 1)]
    have h1 : r1 % 2 = 0 ∨ r1 % 2 = 1 := by omega
    have h2 : x1 % 2 = 0 ∨ x1 % 2 = 1 := by omega
    rcases h1 with h1 | h1 <;> rcases h2 with h2 | h2 <;> rw [h1, h2] <;> decide
   by_cases h : r1 % 2 = x1 % 2
   ·have hs : stepN r1 x1 = r1 / 2 := by unfold stepN; rw [hodd, if_pos h]; rfl
    rw [hs] at hT2 hl
    have T : ((r1 : Int) % 2 == (x1 : Int) % 2) = true := by rw [beq_iff_eq]; omega
    clear hodd hs
    go_wp2_with fail
    go_roundw
    case rel => exact ⟨i + 1, r1 / 2, x1 / 2, by omega, by go_num, by go_num, by go_num, hl, by omega, hT2, hB⟩
    case measure => simp [intOf]; omega
   ·have hs : stepN r1 x1 = (r1 / 2) ^^^ 3988292384 := by unfold stepN; rw [hodd, if_neg h]; rfl
    rw [hs] at hT2 hl
    have T : ((r1 : Int) % 2 == (x1 : Int) % 2) = false := by rw [beq_eq_false_iff_ne]; omega
    have hX := lh (fun w => show Calls Tryz.prog 132 #[.int .u32 ((r1 : Int) / 2), .int .u32 3988292384] w fun e w' => e = .returned (.int .u32 ((r1 / 2) ^^^ 3988292384 : Nat)) ∧ Below w.heap.size w w' from by
     rw [show (r1 : Int) / 2 = ((r1 / 2 : Nat) : Int) by omega]
     exact refXor_any (r1 / 2) 3988292384 w (by omega) (by omega))
    clear hodd hs h
    generalize (r1 / 2) ^^^ 3988292384 = r2 at *
    go_wp2_with fail
    refine (hX.out _).mono ?_
    rintro e w2 ⟨rfl, hb2⟩
    go_wp2_with fail
    go_roundw
    case rel => exact ⟨i + 1, r2, x1 / 2, by omega, by go_num, rfl, by go_num, hl, by omega, hT2, hB.trans (hb2.mono hB.size)⟩
    case measure => simp [intOf]; omega
  ·obtain rfl : i = 64 := by omega
   have hT' : r1 = turnN 64 r x := hT.out
   replace hT' := lh hT'
   clear hT
   go_wp2_with fail
   go_ret
   exact ⟨by rw [← hT'.out]; rfl, hB⟩
end Go.Proofs.YtdmmbnnejbmdpaaGreatDoor
end
section
namespace Go.Proofs.YtdmmbnnejbmdpaaGreatDoor
open Go.RowKit
def SL (w : World) (v : Value) (l : List Nat) : Prop :=
 (l = [] ∧ ∃ sp cap, v = .slice sp 0 cap) ∨ ∃ g off cap, v = .slice (some ⟨g, off, none⟩) l.length cap ∧ g < w.heap.size ∧ l.length ≤ cap ∧ ∀ i, i < l.length → w.cell? ⟨g, off + i, none⟩ = some (.int .u64 (l.getD i 0 : Nat))
theorem SL.keep {w w1 : World} {v : Value} {l : List Nat} (h : SL w v l) (hb : Below w.heap.size w w1) : SL w1 v l := by
 rcases h with h | ⟨g, off, cap, hv, hg, hcap, hc⟩
 ·exact .inl h
 ·exact .inr ⟨g, off, cap, hv, Nat.lt_of_lt_of_le hg hb.size, hcap, fun i hi => by rw [(bcell hb).1 _ _ hg]; exact hc i hi⟩
def WL (l : List Nat) : Prop := ∀ x ∈ l, x < 18446744073709551616
theorem WL.at {l : List Nat} (h : WL l) (i : Nat) (hi : i < l.length) : l.getD i 0 < 18446744073709551616 := by
 rw [List.getD_eq_getElem?_getD, List.getElem?_eq_getElem hi]
 exact h _ (List.getElem_mem hi)
def foldT (r : Nat) (l : List Nat) : Nat := l.foldl (fun r x => turnN 64 r x) r
theorem foldT_step (r : Nat) (l : List Nat) (j : Nat) (h : j < l.length) : foldT r (l.take (j + 1)) = turnN 64 (foldT r (l.take j)) (l.getD j 0) := by
 unfold foldT
 rw [List.take_succ_eq_append_getElem h, List.foldl_append, List.getD_eq_getElem?_getD, List.getElem?_eq_getElem h]
 rfl
def moreN (s : Nat) (l : List Nat) : Nat := 4294967295 - foldT (4294967295 - s) l
theorem moreN_lt (s : Nat) (l : List Nat) : moreN s l < 4294967296 := by unfold moreN; omega
theorem refMore_any (s : Nat) (v : Value) (l : List Nat) (w : World) (hs : s < 4294967296) (hl : WL l) (hlen : l.length ≤ 1000) (hv : SL w v l) :
 Calls Tryz.prog 94 #[.int .u32 s, v] w fun e w' => e = .returned (.int .u32 (moreN s l : Nat)) ∧ Below w.heap.size w w' := by
 have hout := lh (show (moreN s l : Nat) = 4294967295 - foldT (4294967295 - s) l from rfl)
 rcases hv with ⟨rfl, sp, cap, rfl⟩ | ⟨g, off, cap, rfl, hg, hcap, hc⟩
 ·go_enter Tryz.func94, Tryz.ntmps94
  go_wp2_with fail
  go_loopw [5, 6] (fun a k wr => k = .int .i64 0 ∧ a = .int .u32 (4294967295 - s : Nat) ∧ Below w.heap.size w wr) (fun _ _ _ => 0)
  case atStart => exact ⟨rfl, by go_num, Below.refl _ _⟩
  case round =>
   obtain ⟨rfl, rfl, hB⟩ := hrel
   go_wp2_with fail
   go_ret
   exact ⟨by rw [hout.out, show foldT (4294967295 - s) [] = 4294967295 - s from rfl]; go_num, hB⟩
 ·have hC := lh hc
  clear hc
  go_enter Tryz.func94, Tryz.ntmps94
  go_wp2_with fail
  go_loopw [5, 6] (fun a k wr => ∃ i r1 : Nat, i ≤ l.length ∧ k = .int .i64 i ∧ a = .int .u32 r1 ∧ r1 < 4294967296 ∧ Hid (r1 = foldT (4294967295 - s) (l.take i)) ∧ Below w.heap.size w wr) (fun _ k _ => l.length + 1 - (intOf k).toNat)
  case atStart => exact ⟨0, 4294967295 - s, by omega, rfl, by go_num, by omega, rfl, Below.refl _ _⟩
  case round =>
   obtain ⟨i, r1, hi, rfl, rfl, hr1, hT, hB⟩ := hrel
   by_cases hlt : i < l.length
   ·have hlt' : (i : Int) < (l.length : Int) := by omega
    have hx := hl.at i hlt
    have hstep := lh (foldT_step (4294967295 - s) l i hlt)
    have hc : wr.cell? ⟨g, off + i, none⟩ = some (.int .u64 (l.getD i 0 : Nat)) := by rw [(bcell hB).1 _ _ hg]; exact hC.out i hlt
    have hO := lh (fun w => refOn_any r1 (l.getD i 0) w hr1 hx)
    generalize hy : l.getD i 0 = y at *
    go_wp2_with fail
    refine (hO.out _).mono ?_
    rintro e w2 ⟨rfl, hb2⟩
    go_wp2_with fail
    go_roundw
    case rel => exact ⟨i + 1, turnN 64 r1 y, by omega, by go_num, rfl, turnN_lt 64 r1 y hr1, by rw [hstep.out, ← hT.out]; rfl, hB.trans (hb2.mono hB.size)⟩
    case measure => simp [intOf]; omega
   ·obtain rfl : i = l.length := by omega
    have hT' : r1 = foldT (4294967295 - s) l := by rw [hT.out, List.take_of_length_le (Nat.le_refl _)]
    replace hT' := lh hT'
    clear hT
    go_wp2_with fail
    go_ret
    exact ⟨by rw [hout.out, ← hT'.out]; go_num, hB⟩
theorem not32 (s : Nat) (hs : s < 4294967296) : bits .xor .u32 IntKind.u32.max (s : Int) = ((4294967295 - s : Nat) : Int) := by
 rw [show IntKind.u32.max = ((4294967295 : Nat) : Int) by decide +kernel, u32_xor_nat _ _ (by omega) hs]
 congr 1
 apply Nat.eq_of_testBit_eq
 intro i
 rw [Nat.testBit_xor, show 4294967295 - s = 2 ^ 32 - (s + 1) by omega, Nat.testBit_two_pow_sub_succ (by omega), show (4294967295 : Nat) = 2 ^ 32 - 1 by decide, Nat.testBit_two_pow_sub_one]
 by_cases h : i < 32
 ·simp [h]
 ·have := Nat.testBit_lt_two_pow (Nat.lt_of_lt_of_le hs (show 4294967296 ≤ 2 ^ i from Nat.pow_le_pow_right (n := 2) (by omega) (show 32 ≤ i by omega)))
  simp [h, this]
theorem more_any (s : Nat) (v : Value) (l : List Nat) (w : World) (hs : s < 4294967296) (hl : WL l) (hlen : l.length ≤ 1000) (hv : SL w v l) :
 Calls Tryz.prog 137 #[.int .u32 s, v] w fun e w' => e = .returned (.int .u32 (moreN s l : Nat)) ∧ Below w.heap.size w w' := by
 have hout := lh (show (moreN s l : Nat) = 4294967295 - foldT (4294967295 - s) l from rfl)
 rcases hv with ⟨rfl, sp, cap, rfl⟩ | ⟨g, off, cap, rfl, hg, hcap, hc⟩
 ·go_enter Tryz.func137, Tryz.ntmps137
  go_wp2_with fail
  go_loopw [6, 14] (fun a k wr => k = .int .i64 0 ∧ a = .int .u32 (4294967295 - s : Nat) ∧ Below w.heap.size w wr) (fun _ _ _ => 0)
  case atStart => exact ⟨rfl, by rw [not32 s hs], bZ _ _⟩
  case round =>
   obtain ⟨rfl, rfl, hB⟩ := hrel
   go_wp2_with fail
   go_ret
   exact ⟨by rw [hout.out, show foldT (4294967295 - s) [] = 4294967295 - s from rfl, ← not32 (4294967295 - s) (by omega)]; rfl, hB⟩
 ·have hC := lh hc
  clear hc
  go_enter Tryz.func137, Tryz.ntmps137
  go_wp2_with fail
  go_loopw [6, 14] (fun a k wr => ∃ i r1 : Nat, i ≤ l.length ∧ k = .int .i64 i ∧ a = .int .u32 r1 ∧ r1 < 4294967296 ∧ Hid (r1 = foldT (4294967295 - s) (l.take i)) ∧ wr.cell? ⟨w.heap.size, 0, none⟩ = some (.func (.func 140) #[] #[.pointer (some ⟨w.heap.size, 0, none⟩)]) ∧ Below w.heap.size w wr) (fun _ k _ => l.length + 1 - (intOf k).toNat)
  case atStart => exact ⟨0, 4294967295 - s, by omega, rfl, by rw [not32 s hs], by omega, rfl, by simp [go_sem], bZ _ _⟩
  case round =>
   obtain ⟨i, r1, hi, rfl, rfl, hr1, hT, hcl, hB⟩ := hrel
   by_cases hlt : i < l.length
   ·have hlt' : (i : Int) < (l.length : Int) := by omega
    have hx := hl.at i hlt
    have hstep := lh (foldT_step (4294967295 - s) l i hlt)
    have hc : wr.cell? ⟨g, off + i, none⟩ = some (.int .u64 (l.getD i 0 : Nat)) := by rw [(bcell hB).1 _ _ hg]; exact hC.out i hlt
    have hO := lh (turn_any 64 r1 (l.getD i 0) wr w.heap.size (by omega) hr1 hx hcl)
    generalize hy : l.getD i 0 = y at *
    go_wp2_with fail
    refine hO.out.mono ?_
    rintro e w2 ⟨rfl, rfl⟩
    go_wp2_with fail
    go_roundw
    case rel => exact ⟨i + 1, turnN 64 r1 y, by omega, by go_num, rfl, turnN_lt 64 r1 y hr1, by rw [hstep.out, ← hT.out]; rfl, hcl, hB⟩
    case measure => simp [intOf]; omega
   ·obtain rfl : i = l.length := by omega
    have hT' : r1 = foldT (4294967295 - s) l := by rw [hT.out, List.take_of_length_le (Nat.le_refl _)]
    replace hT' := lh hT'
    clear hT
    go_wp2_with fail
    go_ret
    exact ⟨by rw [hout.out, ← hT'.out, ← not32 r1 hr1]; rfl, hB⟩
theorem of_any (v : Value) (l : List Nat) (w : World) (hl : WL l) (hlen : l.length ≤ 1000) (hv : SL w v l) :
 Calls Tryz.prog 134 #[v] w fun e w' => e = .returned (.int .u32 (moreN 0 l : Nat)) ∧ Below w.heap.size w w' := by
 have hM := lh (more_any 0 v l w (by omega) hl hlen hv)
 clear hv
 go_enter Tryz.func134, Tryz.ntmps134
 go_wp2_with fail
 refine hM.out.mono ?_
 rintro e w2 ⟨rfl, hb⟩
 go_wp2_with fail
 go_ret
 exact ⟨rfl, hb⟩
theorem refOf_any (v : Value) (l : List Nat) (w : World) (hl : WL l) (hlen : l.length ≤ 1000) (hv : SL w v l) :
 Calls Tryz.prog 58 #[v] w fun e w' => e = .returned (.int .u32 (moreN 0 l : Nat)) ∧ Below w.heap.size w w' := by
 have hM := lh (refMore_any 0 v l w (by omega) hl hlen hv)
 clear hv
 go_enter Tryz.func58, Tryz.ntmps58
 go_wp2_with fail
 refine hM.out.mono ?_
 rintro e w2 ⟨rfl, hb⟩
 go_wp2_with fail
 go_ret
 exact ⟨rfl, hb⟩
end Go.Proofs.YtdmmbnnejbmdpaaGreatDoor
end
section
namespace Go.Proofs.YtdmmbnnejbmdpaaGreatDoor
section
variable {P : Program} {L : List Oper} {Q : Exit → Act → World → Prop} {md : Region.Mode} {S : World → Prop} {n : Nat}
theorem takeQ (i : Nat) {o : Oper} {v : Value} {fuel : Nat} {listed l' : Array Bool} {a a' : Act} {w : World} (h : wpAnyH P md L.toArray Q S fuel l' a' w)
 (hi : L[i]? = some o := by rfl)
 (hs : Region.noSelect L.toArray = true := by kernel_rfl) (hf : Region.free md L.toArray listed i = true := by kernel_rfl) (hr : (Region.ready md L.toArray listed).contains i = true := by kernel_rfl)
 (hQ : ∀ c a w, Q (.panic c) (a.put o.dst v) w → Q (.panic c) a w := by (intro _ _ _ h; exact h)) (hw : Region.wanted o (yielded L.toArray a.tmps) = true := by rfl) (hS : S w := by assumption)
 (hy : ∀ w, S w → (execOp a.eval o).run P w = .ok (.value v) w := by (intro w hSw; (try dsimp only at hSw); go_simp <;> with_reducible rfl))
 (ha : a.put o.dst v = a' := by ((try simp only [Act.put,sA,sB,sC]); try rfl))
 (hl : listed.setIfInBounds i true = l' := by ((try simp only [List.setIfInBounds_toArray, List.set_cons_zero, List.set_cons_succ]); try rfl)) : wpAnyH P md L.toArray Q S (fuel + 1) listed a w :=
 takeL i hi hs hf hr hQ hw hS hy (by rw [ha, hl]; exact h)
theorem takeV (i : Nat) {o : Oper} {v : Value} {fuel : Nat} {listed l' : Array Bool} {a a' : Act} {w : World} (h : wpAnyH P md L.toArray Q S fuel l' a' w)
 (hi : L[i]? = some o := by rfl)
 (hs : Region.noSelect L.toArray = true := by kernel_rfl) (hf : Region.free md L.toArray listed i = true := by kernel_rfl) (hr : (Region.ready md L.toArray listed).contains i = true := by kernel_rfl)
 (hQ : ∀ c a w, Q (.panic c) (a.put o.dst v) w → Q (.panic c) a w := by (intro _ _ _ h; exact h)) (hw : Region.wanted o (yielded L.toArray a.tmps) = true := by rfl) (hS : S w := by assumption)
 (hy : ∀ w, S w → (execOp a.eval o).run P w = .ok (.value v) w := by (intro w hSw; (try dsimp only at hSw); (try go_split_ands); go_simp <;> with_reducible rfl))
 (ha : a.put o.dst v = a' := by ((try simp only [Act.put,sA,sB,sC]); try rfl))
 (hl : listed.setIfInBounds i true = l' := by ((try simp only [List.setIfInBounds_toArray, List.set_cons_zero, List.set_cons_succ]); try rfl)) : wpAnyH P md L.toArray Q S (fuel + 1) listed a w :=
 takeL i hi hs hf hr hQ hw hS hy (by rw [ha, hl]; exact h)
theorem takeVS (i : Nat) {o : Oper} {v : Value} {fuel : Nat} {listed l' : Array Bool} {a a' : Act} {w : World} (inv : HeadInv md L.toArray n listed) (h : HeadInv md L.toArray n l' → wpAnyS P md L.toArray Q S n fuel l' a' w)
 (T : TailAt md L.toArray n := by exact (tailAt (by kernel_rfl))) (hin : i < n := by decide)
 (hi : L[i]? = some o := by rfl)
 (hs : Region.noSelect L.toArray = true := by kernel_rfl) (hf : Region.free md L.toArray listed i = true := by kernel_rfl) (hr : (Region.ready md L.toArray listed).contains i = true := by kernel_rfl)
 (hQ : ∀ c a w, Q (.panic c) (a.put o.dst v) w → Q (.panic c) a w := by (intro _ _ _ h; exact h)) (hw : Region.wanted o (yielded L.toArray a.tmps) = true := by rfl) (hS : S w := by assumption)
 (hy : ∀ w, S w → (execOp a.eval o).run P w = .ok (.value v) w := by (intro w hSw; (try dsimp only at hSw); (try go_split_ands); go_simp <;> with_reducible rfl))
 (ha : a.put o.dst v = a' := by ((try simp only [Act.put,sA,sB,sC]); try rfl))
 (hl : listed.setIfInBounds i true = l' := by ((try simp only [List.setIfInBounds_toArray, List.set_cons_zero, List.set_cons_succ]); try rfl)) : wpAnyS P md L.toArray Q S n (fuel + 1) listed a w :=
 takeS i T inv hin hi hs hf hr hQ hw hS hy (fun q => by rw [ha, hl]; exact h (by rw [← hl]; exact q))
theorem idleQ (i : Nat) {o : Oper} {fuel : Nat} {listed l' : Array Bool} {a a' : Act} {w : World} (h : wpAnyH P md L.toArray Q S fuel l' a' w)
 (hi : L[i]? = some o := by rfl)
 (hs : Region.noSelect L.toArray = true := by kernel_rfl) (hf : Region.free md L.toArray listed i = true := by kernel_rfl) (hr : (Region.ready md L.toArray listed).contains i = true := by kernel_rfl)
 (hQ : ∀ c a w, Q (.panic c) (a.put o.dst undef) w → Q (.panic c) a w := by (intro _ _ _ h; exact h)) (hw : Region.wanted o (yielded L.toArray a.tmps) = false := by rfl) (hS : S w := by assumption)
 (ha : a.put o.dst undef = a' := by ((try simp only [Act.put,sA,sB,sC]); try rfl))
 (hl : listed.setIfInBounds i true = l' := by ((try simp only [List.setIfInBounds_toArray, List.set_cons_zero, List.set_cons_succ]); try rfl)) : wpAnyH P md L.toArray Q S (fuel + 1) listed a w :=
 idleL i hi hs hf hr hQ hw hS (by rw [ha, hl]; exact h)
end
end Go.Proofs.YtdmmbnnejbmdpaaGreatDoor
end
section
namespace Go.Proofs.YtdmmbnnejbmdpaaGreatDoor
theorem tailB_iff (t : List Nat) (n i : Nat) : tailB t n i = true ↔ ∃ k, k < n ∧ kN (t.getD k 0) = 2 ∧ i < k + mN (t.getD k 0) := by
 unfold tailB
 rw [List.any_eq_true]
 simp only [List.mem_range, Bool.and_eq_true, decide_eq_true_eq]
theorem blksAt_none {i x : Nat} (h1 : ¬ kN x = 1) (h2 : ¬ kN x = 2) : blksAt i x = [] := by unfold blksAt; rw [if_neg h1, if_neg h2]
end Go.Proofs.YtdmmbnnejbmdpaaGreatDoor
end
section
namespace Go.Proofs.YtdmmbnnejbmdpaaGreatDoor
theorem p16 : (2 : Nat) ^ 16 = 65536 := by decide
theorem p32 : (2 : Nat) ^ 32 = 4294967296 := by decide
theorem p48 : (2 : Nat) ^ 48 = 281474976710656 := by decide
theorem p64 : (2 : Nat) ^ 64 = 18446744073709551616 := by decide
def hdW (t s : Nat) : Nat := t + 65536 * s + 18038886832455811072
theorem put1 {t : Nat} (h : t < 65536) : putN 0 0 16 t = t := by
 unfold putN
 rw [Nat.zero_add, p16, Nat.pow_zero]; omega
theorem put2 {t s : Nat} (h : t < 65536) (hs : s < 65536) : putN t 16 16 s = t + 65536 * s := by
 unfold putN
 rw [show (16 + 16 : Nat) = 32 from rfl, p16, p32, Nat.mod_eq_of_lt h, Nat.mod_eq_of_lt hs, Nat.div_eq_of_lt (show t < 4294967296 by omega), Nat.zero_mul]; omega
theorem put3 {x : Nat} (h : x < 4294967296) : putN x 48 16 64087 = x + 18038886832455811072 := by
 unfold putN
 rw [show (48 + 16 : Nat) = 64 from rfl, p16, p48, p64, Nat.mod_eq_of_lt (show x < 281474976710656 by omega), Nat.div_eq_of_lt (show x < 18446744073709551616 by omega), Nat.zero_mul]
theorem get1 (x : Nat) : getN x 0 16 = x % 65536 := by
 unfold getN; rw [p16, Nat.pow_zero, Nat.div_one]
theorem get2 (x : Nat) : getN x 16 16 = x / 65536 % 65536 := by
 unfold getN; rw [p16]
theorem hdW_is (x : Nat) : hdW (x % 65536) (x / 65536 % 65536) = x ↔ x / 4294967296 = 4200005632 := by unfold hdW; omega
def hdB (t s n : Int) : Bool := decide (1 ≤ t ∧ t ≤ 65535 ∧ 0 ≤ s ∧ s ≤ 4096 ∧ ¬ n = 0)
end Go.Proofs.YtdmmbnnejbmdpaaGreatDoor
end
