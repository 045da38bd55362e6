/-
  Part of the proof of SoundApart,SoundTwins,SoundWords.
-/
import Derived.Test.YtdmmbnnejbmdpaaGreatDoorVt91
import Derived.Test.YtdmmbnnejbmdpaaGreatDoorRows
import Derived.Laws.BitsAllLaws
import Derived.WalkLawsBesides
import Derived.WalkSpells
import Derived.Test.YtdmmbnnejbmdpaaGreatDoorVt90
set_option maxRecDepth 10000
set_option maxHeartbeats 1000000
set_option linter.unusedVariables false
set_option linter.unusedSimpArgs false
section
namespace Go.Proofs.YtdmmbnnejbmdpaaGreatDoor
open Go.RowKit
def stepN (r w : Nat) : Nat := if (r ^^^ w) % 2 = 1 then (r / 2) ^^^ 3988292384 else r / 2
def turnN : Nat → Nat → Nat → Nat
 | 0, r, _ => r
 | n + 1, r, w => turnN n (stepN r w) (w / 2)
theorem xor_lt32 {a b : Nat} (ha : a < 4294967296) (hb : b < 4294967296) : a ^^^ b < 4294967296 := Nat.xor_lt_two_pow (n := 32) ha hb
theorem stepN_lt (r w : Nat) (hr : r < 4294967296) : stepN r w < 4294967296 := by
 unfold stepN
 split
 ·exact xor_lt32 (by omega) (by omega)
 ·omega
theorem turnN_lt (n : Nat) : ∀ (r w : Nat), r < 4294967296 → turnN n r w < 4294967296 := by
 induction n with
 | zero => intro r w h; exact h
 | succ n ih => intro r w h; exact ih _ _ (stepN_lt r w h)
theorem turn_any (n : Nat) : ∀ (r x : Nat) (w : World) (g : Nat), n ≤ 64 → r < 4294967296 → x < 18446744073709551616 → w.cell? ⟨g, 0, none⟩ = some (.func (.func 140) #[] #[.pointer (some ⟨g, 0, none⟩)]) →
 Calls Tryz.prog 140 #[.int .u32 r, .int .u64 x, .int .i64 n, .pointer (some ⟨g, 0, none⟩)] w fun e w' => e = .returned (.int .u32 (turnN n r x : Nat)) ∧ w = w' := by
 induction n with
 | zero =>
   intro r x w g hn hr hx hg
   go_enter Tryz.func140, Tryz.ntmps140
   go_wp2_with fail
   go_ret
   exact ⟨rfl, rfl⟩
 | succ n ih =>
   intro r x w g hn hr hx hg
   have e1 : bits .xor .u64 (r : Int) (x : Int) = ((r ^^^ x : Nat) : Int) := u64_xor_nat r x (by omega) hx
   have hl := stepN_lt r x hr
   have hI := ih (stepN r x) (x / 2) w g (by omega) hl (by omega) hg
   have ht : turnN (n + 1) r x = turnN n (stepN r x) (x / 2) := rfl
   rw [ht]
   generalize turnN n (stepN r x) (x / 2) = res at hI ⊢
   clear ih ht
   rw [show ((x / 2 : Nat) : Int) = (x : Int) / 2 by omega] at hI
   have e0 : ((n + 1 : Nat) : Int) = (n : Int) + 1 := by omega
   have hq : ¬ (n : Int) + 1 = 0 := by omega
   rw [e0]
   clear e0
   have e2 : bits .and .u64 ((r ^^^ x : Nat) : Int) 1 = (((r ^^^ x) % 2 : Nat) : Int) := by
    rw [show (1 : Int) = ((1 : Nat) : Int) from rfl, u64_and_nat _ 1 (Nat.xor_lt_two_pow (n := 64) (by omega) hx) (by omega), Nat.and_one_is_mod]
   by_cases h : (r ^^^ x) % 2 = 1
   ·have hs : ((stepN r x : Nat) : Int) = bits .xor .u32 ((r : Int) / 2) 3988292384 := by
     unfold stepN
     rw [if_pos h, show (r : Int) / 2 = ((r / 2 : Nat) : Int) by omega]
     exact (u32_xor_nat (r / 2) 3988292384 (by omega) (by omega)).symm
    rw [hs] at hI
    replace hI := lh hI
    have hT : (bits .and .u64 (bits .xor .u64 (r : Int) (x : Int)) 1 == 1) = true := by rw [e1, e2, h]; rfl
    clear hs e1 e2 h hl
    go_enter Tryz.func140, Tryz.ntmps140
    go_wp2_with fail
    refine hI.out.mono ?_
    rintro e w' ⟨rfl, rfl⟩
    go_wp2_with fail
    go_ret
    exact ⟨rfl, rfl⟩
   ·have h0 : (r ^^^ x) % 2 = 0 := by omega
    have hs : ((stepN r x : Nat) : Int) = (r : Int) / 2 := by
     unfold stepN
     rw [if_neg h]
     omega
    rw [hs] at hI
    replace hI := lh hI
    have hT : (bits .and .u64 (bits .xor .u64 (r : Int) (x : Int)) 1 == 1) = false := by rw [e1, e2, h0]; rfl
    clear hs e1 e2 h h0 hl
    go_enter Tryz.func140, Tryz.ntmps140
    go_wp2_with fail
    refine hI.out.mono ?_
    rintro e w' ⟨rfl, rfl⟩
    go_wp2_with fail
    go_ret
    exact ⟨rfl, rfl⟩
end Go.Proofs.YtdmmbnnejbmdpaaGreatDoor
end
section
namespace Go.Proofs.YtdmmbnnejbmdpaaGreatDoor
theorem mod_step (x n : Nat) : x % 2 ^ (n + 1) = x % 2 ^ n + if x.testBit n then 2 ^ n else 0 := by
 rw [Nat.pow_succ, Nat.mod_mul, Nat.testBit_eq_decide_div_mod_eq]
 rcases Nat.mod_two_eq_zero_or_one (x / 2 ^ n) with h | h <;> simp [h]
end Go.Proofs.YtdmmbnnejbmdpaaGreatDoor
end
section
namespace Go.Proofs.YtdmmbnnejbmdpaaGreatDoor
section
variable {P : Program} {L : List Oper} {Q : Exit → Act → World → Prop} {md : Region.Mode} {S : World → Prop} {n : Nat}
theorem takeQ (i : Nat) {o : Oper} {v : Value} {fuel : Nat} {listed l' : Array Bool} {a a' : Act} {w : World} (h : wpAnyH P md L.toArray Q S fuel l' a' w)
 (hi : L[i]? = some o := by rfl)
 (hs : Region.noSelect L.toArray = true := by kernel_rfl) (hf : Region.free md L.toArray listed i = true := by kernel_rfl) (hr : (Region.ready md L.toArray listed).contains i = true := by kernel_rfl)
 (hQ : ∀ c a w, Q (.panic c) (a.put o.dst v) w → Q (.panic c) a w := by (intro _ _ _ h; exact h)) (hw : Region.wanted o (yielded L.toArray a.tmps) = true := by rfl) (hS : S w := by assumption)
 (hy : ∀ w, S w → (execOp a.eval o).run P w = .ok (.value v) w := by (intro w hSw; (try dsimp only at hSw); go_simp <;> with_reducible rfl))
 (ha : a.put o.dst v = a' := by ((try simp only [Act.put,sA,sB,sC]); try rfl))
 (hl : listed.setIfInBounds i true = l' := by ((try simp only [List.setIfInBounds_toArray, List.set_cons_zero, List.set_cons_succ]); try rfl)) : wpAnyH P md L.toArray Q S (fuel + 1) listed a w :=
 takeL i hi hs hf hr hQ hw hS hy (by rw [ha, hl]; exact h)
theorem takeV (i : Nat) {o : Oper} {v : Value} {fuel : Nat} {listed l' : Array Bool} {a a' : Act} {w : World} (h : wpAnyH P md L.toArray Q S fuel l' a' w)
 (hi : L[i]? = some o := by rfl)
 (hs : Region.noSelect L.toArray = true := by kernel_rfl) (hf : Region.free md L.toArray listed i = true := by kernel_rfl) (hr : (Region.ready md L.toArray listed).contains i = true := by kernel_rfl)
 (hQ : ∀ c a w, Q (.panic c) (a.put o.dst v) w → Q (.panic c) a w := by (intro _ _ _ h; exact h)) (hw : Region.wanted o (yielded L.toArray a.tmps) = true := by rfl) (hS : S w := by assumption)
 (hy : ∀ w, S w → (execOp a.eval o).run P w = .ok (.value v) w := by (intro w hSw; (try dsimp only at hSw); (try go_split_ands); go_simp <;> with_reducible rfl))
 (ha : a.put o.dst v = a' := by ((try simp only [Act.put,sA,sB,sC]); try rfl))
 (hl : listed.setIfInBounds i true = l' := by ((try simp only [List.setIfInBounds_toArray, List.set_cons_zero, List.set_cons_succ]); try rfl)) : wpAnyH P md L.toArray Q S (fuel + 1) listed a w :=
 takeL i hi hs hf hr hQ hw hS hy (by rw [ha, hl]; exact h)
theorem takeVS (i : Nat) {o : Oper} {v : Value} {fuel : Nat} {listed l' : Array Bool} {a a' : Act} {w : World} (inv : HeadInv md L.toArray n listed) (h : HeadInv md L.toArray n l' → wpAnyS P md L.toArray Q S n fuel l' a' w)
 (T : TailAt md L.toArray n := by exact (tailAt (by kernel_rfl))) (hin : i < n := by decide)
 (hi : L[i]? = some o := by rfl)
 (hs : Region.noSelect L.toArray = true := by kernel_rfl) (hf : Region.free md L.toArray listed i = true := by kernel_rfl) (hr : (Region.ready md L.toArray listed).contains i = true := by kernel_rfl)
 (hQ : ∀ c a w, Q (.panic c) (a.put o.dst v) w → Q (.panic c) a w := by (intro _ _ _ h; exact h)) (hw : Region.wanted o (yielded L.toArray a.tmps) = true := by rfl) (hS : S w := by assumption)
 (hy : ∀ w, S w → (execOp a.eval o).run P w = .ok (.value v) w := by (intro w hSw; (try dsimp only at hSw); (try go_split_ands); go_simp <;> with_reducible rfl))
 (ha : a.put o.dst v = a' := by ((try simp only [Act.put,sA,sB,sC]); try rfl))
 (hl : listed.setIfInBounds i true = l' := by ((try simp only [List.setIfInBounds_toArray, List.set_cons_zero, List.set_cons_succ]); try rfl)) : wpAnyS P md L.toArray Q S n (fuel + 1) listed a w :=
 takeS i T inv hin hi hs hf hr hQ hw hS hy (fun q => by rw [ha, hl]; exact h (by rw [← hl]; exact q))
theorem idleQ (i : Nat) {o : Oper} {fuel : Nat} {listed l' : Array Bool} {a a' : Act} {w : World} (h : wpAnyH P md L.toArray Q S fuel l' a' w)
 (hi : L[i]? = some o := by rfl)
 (hs : Region.noSelect L.toArray = true := by kernel_rfl) (hf : Region.free md L.toArray listed i = true := by kernel_rfl) (hr : (Region.ready md L.toArray listed).contains i = true := by kernel_rfl)
 (hQ : ∀ c a w, Q (.panic c) (a.put o.dst undef) w → Q (.panic c) a w := by (intro _ _ _ h; exact h)) (hw : Region.wanted o (yielded L.toArray a.tmps) = false := by rfl) (hS : S w := by assumption)
 (ha : a.put o.dst undef = a' := by ((try simp only [Act.put,sA,sB,sC]); try rfl))
 (hl : listed.setIfInBounds i true = l' := by ((try simp only [List.setIfInBounds_toArray, List.set_cons_zero, List.set_cons_succ]); try rfl)) : wpAnyH P md L.toArray Q S (fuel + 1) listed a w :=
 idleL i hi hs hf hr hQ hw hS (by rw [ha, hl]; exact h)
end
end Go.Proofs.YtdmmbnnejbmdpaaGreatDoor
end
section
namespace Go.Proofs.YtdmmbnnejbmdpaaGreatDoor
theorem blksAt_none {i x : Nat} (h1 : ¬ kN x = 1) (h2 : ¬ kN x = 2) : blksAt i x = [] := by unfold blksAt; rw [if_neg h1, if_neg h2]
end Go.Proofs.YtdmmbnnejbmdpaaGreatDoor
end
section
namespace Go.Proofs.YtdmmbnnejbmdpaaGreatDoor
theorem p16 : (2 : Nat) ^ 16 = 65536 := by decide
theorem p32 : (2 : Nat) ^ 32 = 4294967296 := by decide
theorem p48 : (2 : Nat) ^ 48 = 281474976710656 := by decide
theorem p64 : (2 : Nat) ^ 64 = 18446744073709551616 := by decide
def hdW (t s : Nat) : Nat := t + 65536 * s + 18038886832455811072
theorem put1 {t : Nat} (h : t < 65536) : putN 0 0 16 t = t := by
 unfold putN
 rw [Nat.zero_add, p16, Nat.pow_zero]; omega
theorem put2 {t s : Nat} (h : t < 65536) (hs : s < 65536) : putN t 16 16 s = t + 65536 * s := by
 unfold putN
 rw [show (16 + 16 : Nat) = 32 from rfl, p16, p32, Nat.mod_eq_of_lt h, Nat.mod_eq_of_lt hs, Nat.div_eq_of_lt (show t < 4294967296 by omega), Nat.zero_mul]; omega
theorem put3 {x : Nat} (h : x < 4294967296) : putN x 48 16 64087 = x + 18038886832455811072 := by
 unfold putN
 rw [show (48 + 16 : Nat) = 64 from rfl, p16, p48, p64, Nat.mod_eq_of_lt (show x < 281474976710656 by omega), Nat.div_eq_of_lt (show x < 18446744073709551616 by omega), Nat.zero_mul]
theorem get1 (x : Nat) : getN x 0 16 = x % 65536 := by
 unfold getN; rw [p16, Nat.pow_zero, Nat.div_one]
theorem get2 (x : Nat) : getN x 16 16 = x / 65536 % 65536 := by
 unfold getN; rw [p16]
theorem hdW_is (x : Nat) : hdW (x % 65536) (x / 65536 % 65536) = x ↔ x / 4294967296 = 4200005632 := by unfold hdW; omega
def hdB (t s n : Int) : Bool := decide (1 ≤ t ∧ t ≤ 65535 ∧ 0 ≤ s ∧ s ≤ 4096 ∧ ¬ n = 0)
end Go.Proofs.YtdmmbnnejbmdpaaGreatDoor
end
