/-
  Part of the proof of JournalSteps.
-/
import Derived.Test.YtkkbngcgphlikaaGreatDoorJt1
import Derived.Test.YtkkbngcgphlikaaGreatDoorJt4
import Derived.Test.YtkkbngcgphlikaaGreatDoorRows
import Derived.Test.YtkkbngcgphlikaaGreatDoorJt0
set_option maxRecDepth 10000
set_option maxHeartbeats 400000
set_option linter.unusedVariables false
set_option linter.unusedSimpArgs false
section
namespace Go.Proofs.YtkkbngcgphlikaaGreatDoor
open Go.RowKit
def lowI (x m : Int) : Int := x % 2 ^ m.toNat
def getI (w a m : Int) : Int := ((getN w.toNat a.toNat m.toNat : Nat) : Int)
def putI (w a m v : Int) : Int := ((putN w.toNat a.toNat m.toNat v.toNat : Nat) : Int)
theorem fits_yes (a m : Int) (w : World) (h0 : 0 ≤ a) (h1 : 1 ≤ m) (h2 : m ≤ 64) (h3 : a ≤ 64 - m) :
 Calls Tryz.prog 184 #[.int .i64 a, .int .i64 m] w fun e w' => e = .returned (.bool true) ∧ w = w' := by
 go_enter Tryz.func184, Tryz.ntmps184
 go_wp2
 go_ret
 exact ⟨rfl, rfl⟩
theorem lowest_any (x m : Int) (w : World) (h0 : 0 ≤ x) (h1 : x < 18446744073709551616) (h2 : 0 ≤ m) (h : m ≤ 64) :
 Calls Tryz.prog 185 #[.int .u64 x, .int .i64 m] w fun e w' => e = .returned (.int .u64 (lowI x m)) ∧ w = w' := by
 by_cases h64 : m = 64
 ·subst h64
  go_enter Tryz.func185, Tryz.ntmps185
  go_wp2
  go_ret
  refine ⟨?_, rfl⟩
  show Ending.returned (.int .u64 x) = _
  unfold lowI
  rw [show ((64 : Int).toNat) = 64 from rfl, show ((2 : Int) ^ 64) = 18446744073709551616 from by decide, Int.emod_eq_of_lt h0 h1]
 have hlt : m < 64 := by omega
 go_enter Tryz.func185, Tryz.ntmps185
 go_wp2
 go_ret
 refine ⟨?_, rfl⟩
 rw [low_walk x m.toNat h0 h1 (by omega)]
 rfl
theorem get_yes (x a m : Int) (w : World) (h0 : 0 ≤ x) (h1 : x < 18446744073709551616) (ha : 0 ≤ a) (hm : 1 ≤ m) (h2 : m ≤ 64) (h3 : a ≤ 64 - m) :
 Calls Tryz.prog 165 #[.int .u64 x, .int .i64 a, .int .i64 m] w fun e w' => e = .returned (.int .u64 (getI x a m)) ∧ w = w' := by
 have h63 : a < 64 := by omega
 go_enter Tryz.func165, Tryz.ntmps165
 have hs := shr_bd x a.toNat h0 h1
 go_wp2_with (first | (go_at_call 184; refine (fits_yes _ _ _ ha hm h2 h3).mono ?_; rintro e w' ⟨rfl, rfl⟩) | (go_at_call 185; refine (lowest_any _ m _ hs.1 hs.2 (by omega) h2).mono ?_; rintro e w' ⟨rfl, rfl⟩))
 go_ret
 refine ⟨?_, rfl⟩
 show Ending.returned (.int .u64 (lowI (x / 2 ^ a.toNat) m)) = _
 unfold lowI getI getN
 obtain ⟨X, rfl⟩ := Int.eq_ofNat_of_zero_le h0
 rw [Int.natCast_emod, Int.natCast_ediv, Int.natCast_pow, Int.natCast_pow]
 rfl
theorem put_yes (x a m v : Int) (w : World) (h0 : 0 ≤ x) (h1 : x < 18446744073709551616) (ha : 0 ≤ a) (hm : 1 ≤ m) (h2 : m ≤ 64) (h3 : a ≤ 64 - m) (hv0 : 0 ≤ v) (hv1 : v < 18446744073709551616) :
 Calls Tryz.prog 156 #[.int .u64 x, .int .i64 a, .int .i64 m, .int .u64 v] w fun e w' => e = .returned (.int .u64 (putI x a m v)) ∧ w = w' := by
 have h63 : a < 64 := by omega
 go_enter Tryz.func156, Tryz.ntmps156
 go_wp2_with (first | (go_at_call 184; refine (fits_yes _ _ _ ha hm h2 h3).mono ?_; rintro e w' ⟨rfl, rfl⟩) | (go_at_call 185; refine (lowest_any _ m _ (by omega) (by omega) (by omega) h2).mono ?_; rintro e w' ⟨rfl, rfl⟩))
 go_ret
 refine ⟨?_, rfl⟩
 show Ending.returned (.int .u64 (bits BinOp.or IntKind.u64 (bits BinOp.andNot IntKind.u64 x (IntKind.u64.wrap (lowI 18446744073709551615 m * 2 ^ a.toNat))) (IntKind.u64.wrap (lowI v m * 2 ^ a.toNat)))) = _
 unfold lowI putI
 rw [put_walk x v a.toNat m.toNat h0 h1 hv0 (by omega)]
theorem getI_bd (x a m : Int) (h0 : 0 ≤ x) (h1 : x < 18446744073709551616) : 0 ≤ getI x a m ∧ getI x a m < 18446744073709551616 := by
 unfold getI getN
 have h2 : x.toNat / 2 ^ a.toNat % 2 ^ m.toNat ≤ x.toNat := Nat.le_trans (Nat.mod_le _ _) (Nat.div_le_self _ _)
 omega
end Go.Proofs.YtkkbngcgphlikaaGreatDoor
end
section
namespace Go.Proofs.YtkkbngcgphlikaaGreatDoor
def isLog (t : List Nat) (lane : Int) (n i : Nat) : Bool := decide (kN (t.getD i 0) = 4) && decide ((lnN (t.getD i 0) : Int) = lane) && decide (mN (t.getD i 0) = n)
def isLg (t : List Nat) (lane : Int) (i : Nat) : Bool := decide (kN (t.getD i 0) = 4) && decide ((lnN (t.getD i 0) : Int) = lane)
def logsN (t : List Nat) (lane : Int) (n m : Nat) : List Nat := (List.range m).filter (isLog t lane n)
def logsR (t : List Nat) (lane : Int) (m : Nat) : List Nat := (List.range m).flatMap fun n => logsN t lane n t.length
def logsF (t : List Nat) (lane : Int) (m : Nat) : List Nat := (List.range m).filter (isLg t lane)
def logsT (t : List Nat) (lane : Int) : List Nat := if t.all okN then logsR t lane 8 else []
theorem logsN_succ (t : List Nat) (lane : Int) (n m : Nat) : logsN t lane n (m + 1) = logsN t lane n m ++ (if isLog t lane n m then [m] else []) := by
 unfold logsN; rw [List.range_succ, List.filter_append]
 by_cases h : isLog t lane n m = true <;> simp [h]
theorem logsF_succ (t : List Nat) (lane : Int) (m : Nat) : logsF t lane (m + 1) = logsF t lane m ++ (if isLg t lane m then [m] else []) := by
 unfold logsF; rw [List.range_succ, List.filter_append]
 by_cases h : isLg t lane m = true <;> simp [h]
theorem logsR_succ (t : List Nat) (lane : Int) (m : Nat) : logsR t lane (m + 1) = logsR t lane m ++ logsN t lane m t.length := by
 unfold logsR; rw [List.range_succ, List.flatMap_append]; simp
theorem logsN_len (t : List Nat) (lane : Int) (n m : Nat) : (logsN t lane n m).length ≤ m := by
 unfold logsN
 have := List.length_filter_le (isLog t lane n) (List.range m)
 rw [List.length_range] at this; exact this
theorem logsF_len (t : List Nat) (lane : Int) (m : Nat) : (logsF t lane m).length ≤ m := by
 unfold logsF
 have := List.length_filter_le (isLg t lane) (List.range m)
 rw [List.length_range] at this; exact this
theorem logsR_len (t : List Nat) (lane : Int) : ∀ m, (logsR t lane m).length ≤ m * t.length
 | 0 => by simp [logsR]
 | m + 1 => by
   rw [logsR_succ, List.length_append, Nat.succ_mul]
   have := logsR_len t lane m
   have := logsN_len t lane m t.length
   omega
theorem logsF_lt {t : List Nat} {lane : Int} {m x : Nat} (h : x ∈ logsF t lane m) : x < m := by
 unfold logsF at h
 exact List.mem_range.1 (List.mem_filter.1 h).1
theorem pair_srt {g : Nat → Int} {d : List Nat} (h : d.Pairwise (fun x y => g x < g y)) : Srt g d 0 d.length := by
 intro i j _ hij hj
 have := (List.pairwise_iff_getElem.1 h) i j (by omega) hj hij
 rwa [List.getD_eq_getElem?_getD, List.getD_eq_getElem?_getD, List.getElem?_eq_getElem (by omega), List.getElem?_eq_getElem hj]
theorem logsF_asc (t : List Nat) (lane : Int) (m : Nat) : Srt nI (logsF t lane m) 0 (logsF t lane m).length := by
 refine pair_srt ?_
 unfold logsF
 refine List.Pairwise.filter _ ?_
 exact (List.pairwise_lt_range).imp (fun h => by unfold nI; omega)
theorem one_sorted_mem {g : Nat → Int} : ∀ {d e : List Nat}, (∀ x, x ∈ d ↔ x ∈ e) → d.Pairwise (fun x y => g x < g y) → e.Pairwise (fun x y => g x < g y) → d = e
 | [], [], _, _, _ => rfl
 | [], y :: e, h, _, _ => absurd ((h y).2 (List.mem_cons_self ..)) (by simp)
 | x :: d, [], h, _, _ => absurd ((h x).1 (List.mem_cons_self ..)) (by simp)
 | x :: d, y :: e, h, h1, h2 => by
   rw [List.pairwise_cons] at h1 h2
   have hxy : x = y := by
    rcases List.mem_cons.1 ((h x).1 (List.mem_cons_self ..)) with q | q
    ·exact q
    ·rcases List.mem_cons.1 ((h y).2 (List.mem_cons_self ..)) with r | r
     ·exact r.symm
     ·have := h2.1 x q
      have := h1.1 y r
      omega
   subst hxy
   rw [one_sorted_mem (fun z => ?_) h1.2 h2.2]
   constructor
   ·intro hz
    rcases List.mem_cons.1 ((h z).1 (List.mem_cons_of_mem _ hz)) with q | q
    ·subst q; have := h1.1 z hz; omega
    ·exact q
   ·intro hz
    rcases List.mem_cons.1 ((h z).2 (List.mem_cons_of_mem _ hz)) with q | q
    ·subst q; have := h2.1 z hz; omega
    ·exact q
def keyL (t : List Nat) (x : Nat) : Int := (mN (t.getD x 0) : Nat)
def keyT (t : List Nat) (N : Nat) (x : Nat) : Int := keyL t x * N + x
theorem logsR_srt (t : List Nat) (lane : Int) (N : Nat) (hN : t.length ≤ N) (m : Nat) : (logsR t lane m).Pairwise (fun x y => keyT t N x < keyT t N y) := by
 unfold logsR
 rw [List.pairwise_flatMap]
 constructor
 ·intro n _
  unfold logsN
  rw [List.pairwise_filter]
  refine (List.pairwise_lt_range).imp (fun {x y} h hx hy => ?_)
  unfold isLog at hx hy
  simp only [Bool.and_eq_true, decide_eq_true_eq] at hx hy
  unfold keyT keyL
  rw [hx.2, hy.2]; omega
 refine (List.pairwise_lt_range).imp (fun {a b} hab x hx y hy => ?_)
 unfold logsN at hx hy
 rw [List.mem_filter, List.mem_range] at hx hy
 unfold isLog at hx hy
 simp only [Bool.and_eq_true, decide_eq_true_eq] at hx hy
 unfold keyT keyL
 rw [hx.2.2, hy.2.2]
 have h1 : ((a : Int) + 1) * (N : Int) ≤ b * N := Int.mul_le_mul_of_nonneg_right (by omega) (by omega)
 rw [Int.add_mul] at h1
 omega
theorem logs_mem (t : List Nat) (lane : Int) (h8 : ∀ i, i < t.length → kN (t.getD i 0) = 4 → mN (t.getD i 0) < 8) (x : Nat) : x ∈ logsF t lane t.length ↔ x ∈ logsR t lane 8 := by
 unfold logsF logsR logsN isLog isLg
 simp only [List.mem_filter, List.mem_range, List.mem_flatMap, Bool.and_eq_true, decide_eq_true_eq]
 constructor
 ·rintro ⟨h1, h2, h3⟩
  exact ⟨_, h8 x h1 h2, h1, ⟨h2, h3⟩, rfl⟩
 rintro ⟨n, _, h1, ⟨h2, h3⟩, _⟩
 exact ⟨h1, h2, h3⟩
theorem logs_done {t : List Nat} {lane : Int} {N : Nat} {e : List Nat} (hN : t.length ≤ N) (h8 : ∀ i, i < t.length → kN (t.getD i 0) = 4 → mN (t.getD i 0) < 8) (hp : e.Perm (logsF t lane t.length)) (hs : Srt (keyT t N) e 0 e.length) : e = logsR t lane 8 :=
 one_sorted_mem (fun x => (hp.mem_iff).trans (logs_mem t lane h8 x)) (srt_pair hs) (logsR_srt t lane N hN 8)
end Go.Proofs.YtkkbngcgphlikaaGreatDoor
end
section
namespace Go.Proofs.YtkkbngcgphlikaaGreatDoor
def movR (d : List Nat) (a p k : Nat) : Nat := if k = p then d.getD a 0 else if a ≤ k ∧ k < p then d.getD (k + 1) 0 else d.getD k 0
structure Mvr (d e : List Nat) (a p b : Nat) : Prop where
 at_ : ∀ k, e.getD k 0 = movR d a p k
 mv : Mv a b d e
theorem Mvr.start (d : List Nat) (a b : Nat) : Mvr d d a a b := ⟨fun k => by
 unfold movR
 by_cases h : k = a
 ·rw [if_pos h, h]
 ·rw [if_neg h, if_neg (by omega)], Mv.refl _ _ _⟩
theorem Mvr.step {d e : List Nat} {a p b : Nat} (h : Mvr d e a p b) (ha : a ≤ p) (hp : p + 1 < b) (hb : b ≤ d.length) : Mvr d (swL e p (p + 1)) a (p + 1) b := by
 have hl := h.mv.len
 refine ⟨fun k => ?_, h.mv.trans (Mv.swap (by omega) (by omega) (by omega) (by omega) (by omega))⟩
 rw [swL_at (by omega) (by omega), h.at_, h.at_, h.at_]
 unfold movR
 by_cases e1 : k = p + 1
 ·subst e1
  rw [if_pos rfl, if_pos rfl, if_pos rfl]
 rw [if_neg e1, if_neg e1]
 by_cases e2 : k = p
 ·subst e2
  rw [if_pos rfl, if_neg (by omega), if_neg (by omega), if_pos (by omega)]
 rw [if_neg e2, if_neg e2]
 by_cases q : a ≤ k ∧ k < p
 ·rw [if_pos q, if_pos (by omega)]
 rw [if_neg q, if_neg (by omega)]
theorem Mvr.done {g : Nat → Int} {d e : List Nat} {a p b : Nat} (h : Mvr d e a p b) (hs : Srt g d (a + 1) b) (hp : p < b) (hap : a ≤ p) (h1 : ∀ q, a + 1 ≤ q → q ≤ p → g (d.getD q 0) < g (d.getD a 0)) (h2 : ∀ q, p < q → q < b → g (d.getD a 0) < g (d.getD q 0)) : Srt g e a b := by
 intro x y x1 x2 x3
 rw [h.at_, h.at_]
 unfold movR
 by_cases e1 : x = p
 ·subst e1
  rw [if_pos rfl, if_neg (by omega), if_neg (by omega)]
  exact h2 _ (by omega) (by omega)
 rw [if_neg e1]
 by_cases e2 : y = p
 ·subst e2
  rw [if_pos rfl, if_pos (by omega)]
  exact h1 _ (by omega) (by omega)
 rw [if_neg e2]
 by_cases k1 : a ≤ x ∧ x < p
 ·rw [if_pos k1]
  by_cases k2 : a ≤ y ∧ y < p
  ·rw [if_pos k2]; exact hs _ _ (by omega) (by omega) (by omega)
  rw [if_neg k2]; exact hs _ _ (by omega) (by omega) (by omega)
 rw [if_neg k1, if_neg (by omega)]
 exact hs _ _ (by omega) (by omega) (by omega)
theorem half_lo {g : Nat → Int} {d : List Nat} {lo hi h x : Nat} (hs : Srt g d lo hi) (hh : h < hi) (hx : g (d.getD h 0) < g (d.getD x 0)) : ∀ q, lo ≤ q → q < h + 1 → g (d.getD q 0) < g (d.getD x 0) := fun q q1 q2 => by
 have := le_of_srt hs (i := q) (j := h) q1 (by omega) hh
 omega
theorem half_hi {g : Nat → Int} {d : List Nat} {lo hi h x : Nat} (hs : Srt g d lo hi) (hl : lo ≤ h) (hx : g (d.getD x 0) < g (d.getD h 0)) : ∀ q, h ≤ q → q < hi → g (d.getD x 0) < g (d.getD q 0) := fun q q1 q2 => by
 have := le_of_srt hs (i := h) (j := q) hl q1 q2
 omega
theorem getD_mem_ {d : List Nat} {i : Nat} (h : i < d.length) : d.getD i 0 ∈ d := by
 rw [List.getD_eq_getElem?_getD, List.getElem?_eq_getElem h]; exact List.getElem_mem h
theorem lss_lt {d : List Nat} {lo hi lo2 hi2 i j : Nat} (h : Lss nI d lo hi lo2 hi2) (h1 : lo ≤ i) (h2 : i < hi) (h3 : lo2 ≤ j) (h4 : j < hi2) : d.getD i 0 < d.getD j 0 := nI_lt (h i j h1 h2 h3 h4)
theorem rotF_id {d : List Nat} {lo m hi : Nat} (h : lo = m ∨ m = hi) (k : Nat) : rotF d lo m hi k = d.getD k 0 := by
 unfold rotF
 by_cases k1 : lo ≤ k ∧ k < hi
 ·rw [if_pos k1]
  rcases h with h | h
  ·rw [if_pos (by omega)]; congr 1; omega
  rw [if_neg (by omega)]; congr 1; omega
 rw [if_neg k1]
theorem Cut.fin {g : Nat → Int} {d e e1 e2 : List Nat} {a m b s0 r0 start en : Nat} (c : Cut g d a m b s0 r0 start en) (l : Srt g d a m) (r : Srt g d m b) (hr : ∀ i, e.getD i 0 = rotF d start m en i)
 (m1 : Mv a ((a + b) / 2) e e1) (s1 : Srt g e1 a ((a + b) / 2)) (m2 : Mv ((a + b) / 2) b e1 e2) (s2 : Srt g e2 ((a + b) / 2) b) : Srt g e2 a b :=
 Srt.join (s1.mv m2 (.inr (Nat.le_refl _))) s2 (((c.mid l r hr).mv1 m1).mv2 m2)
theorem Srt.both {g : Nat → Int} {d : List Nat} {lo mid hi : Nat} (h1 : Srt g d lo mid) (h2 : Srt g d mid hi) (h : mid ≤ lo ∨ hi ≤ mid) : Srt g d lo hi := fun i j a b c => by
 rcases h with h | h
 ·exact h2 i j (by omega) b c
 ·exact h1 i j a b (by omega)
end Go.Proofs.YtkkbngcgphlikaaGreatDoor
end
section
namespace Go.Proofs.YtkkbngcgphlikaaGreatDoor
abbrev St := Nat × Nat × Nat
abbrev gS (S : List St) (i : Nat) : St := S.getD i default
end Go.Proofs.YtkkbngcgphlikaaGreatDoor
end
section
namespace Go.Proofs.YtkkbngcgphlikaaGreatDoor
def hdW (t s : Nat) : Nat := t + 65536 * s + 18038886832455811072
def hdB (t s n : Int) : Bool := decide (1 ≤ t ∧ t ≤ 65535 ∧ 0 ≤ s ∧ s ≤ 4096 ∧ ¬ n = 0)
end Go.Proofs.YtkkbngcgphlikaaGreatDoor
end
