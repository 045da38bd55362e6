/-
  Part of the proof of JournalSaves.
-/
import Derived.Test.YtkkbngcgphlikaaGreatDoorJv1
import Derived.Test.YtkkbngcgphlikaaGreatDoorJv2
import Derived.Test.YtkkbngcgphlikaaGreatDoorJv3
import Derived.Test.YtkkbngcgphlikaaGreatDoorRows
import Derived.Deep.RegionHeld3
import Derived.Lib.Hide
import Derived.OwnWalkIn
import Derived.StillTail
import Derived.Laws.BitsAllLaws
import Derived.WalkLawsBesides
import Derived.WalkSpells
import Derived.BigQuiet
import Derived.Deep.QuietTactic
import Derived.Test.YtkkbngcgphlikaaGreatDoorJv0
set_option maxRecDepth 10000
set_option maxHeartbeats 4000000
set_option linter.unusedVariables false
set_option linter.unusedSimpArgs false
section
namespace Go.Proofs.YtkkbngcgphlikaaGreatDoor
section
variable {P : Program} {L : List Oper} {Q : Exit → Act → World → Prop} {md : Region.Mode} {S : World → Prop} {n : Nat}
theorem takeH (i : Nat) {o : Oper} {v : Value} {fuel : Nat} {listed l' : Array Bool} {a a' : Act} {w : World} (h : wpAnyH P md L.toArray Q S fuel l' a' w)
 (hi : L[i]? = some o := by rfl)
 (hs : Region.noSelect L.toArray = true := by kernel_rfl) (hf : Region.free md L.toArray listed i = true := by kernel_rfl) (hr : (Region.ready md L.toArray listed).contains i = true := by kernel_rfl)
 (hQ : ∀ c a w, Q (.panic c) (a.put o.dst v) w → Q (.panic c) a w := by (intro _ _ _ h; exact h)) (hw : Region.wanted o (yielded L.toArray a.tmps) = true := by rfl) (hS : S w := by assumption)
 (hy : ∀ w, S w → (execOp a.eval o).run P w = .ok (.value v) w := by (intro w hSw; (try dsimp only at hSw); have zz := hCF.out _ hSw; (try go_split_ands); go_simp <;> with_reducible rfl))
 (ha : a.put o.dst v = a' := by ((try simp only [Act.put,sA,sB,sC]); try rfl))
 (hl : listed.setIfInBounds i true = l' := by ((try simp only [List.setIfInBounds_toArray, List.set_cons_zero, List.set_cons_succ]); try rfl)) : wpAnyH P md L.toArray Q S (fuel + 1) listed a w :=
 takeL i hi hs hf hr hQ hw hS hy (by rw [ha, hl]; exact h)
theorem takeHS (i : Nat) {o : Oper} {v : Value} {fuel : Nat} {listed l' : Array Bool} {a a' : Act} {w : World} (inv : HeadInv md L.toArray n listed) (h : HeadInv md L.toArray n l' → wpAnyS P md L.toArray Q S n fuel l' a' w)
 (T : TailAt md L.toArray n := by exact (tailAt (by kernel_rfl))) (hin : i < n := by decide)
 (hi : L[i]? = some o := by rfl)
 (hs : Region.noSelect L.toArray = true := by kernel_rfl) (hf : Region.free md L.toArray listed i = true := by kernel_rfl) (hr : (Region.ready md L.toArray listed).contains i = true := by kernel_rfl)
 (hQ : ∀ c a w, Q (.panic c) (a.put o.dst v) w → Q (.panic c) a w := by (intro _ _ _ h; exact h)) (hw : Region.wanted o (yielded L.toArray a.tmps) = true := by rfl) (hS : S w := by assumption)
 (hy : ∀ w, S w → (execOp a.eval o).run P w = .ok (.value v) w := by (intro w hSw; (try dsimp only at hSw); have zz := hCF.out _ hSw; (try go_split_ands); go_simp <;> with_reducible rfl))
 (ha : a.put o.dst v = a' := by ((try simp only [Act.put,sA,sB,sC]); try rfl))
 (hl : listed.setIfInBounds i true = l' := by ((try simp only [List.setIfInBounds_toArray, List.set_cons_zero, List.set_cons_succ]); try rfl)) : wpAnyS P md L.toArray Q S n (fuel + 1) listed a w :=
 takeS i T inv hin hi hs hf hr hQ hw hS hy (fun q => by rw [ha, hl]; exact h (by rw [← hl]; exact q))
end
end Go.Proofs.YtkkbngcgphlikaaGreatDoor
end
section
namespace Go.Proofs.YtkkbngcgphlikaaGreatDoor
def isLog (t : List Nat) (lane : Int) (n i : Nat) : Bool := decide (kN (t.getD i 0) = 4) && decide ((lnN (t.getD i 0) : Int) = lane) && decide (mN (t.getD i 0) = n)
def isLg (t : List Nat) (lane : Int) (i : Nat) : Bool := decide (kN (t.getD i 0) = 4) && decide ((lnN (t.getD i 0) : Int) = lane)
def logsN (t : List Nat) (lane : Int) (n m : Nat) : List Nat := (List.range m).filter (isLog t lane n)
def logsR (t : List Nat) (lane : Int) (m : Nat) : List Nat := (List.range m).flatMap fun n => logsN t lane n t.length
def logsF (t : List Nat) (lane : Int) (m : Nat) : List Nat := (List.range m).filter (isLg t lane)
def logsT (t : List Nat) (lane : Int) : List Nat := if t.all okN then logsR t lane 8 else []
theorem logsN_succ (t : List Nat) (lane : Int) (n m : Nat) : logsN t lane n (m + 1) = logsN t lane n m ++ (if isLog t lane n m then [m] else []) := by
 unfold logsN; rw [List.range_succ, List.filter_append]
 by_cases h : isLog t lane n m = true <;> simp [h]
theorem logsF_succ (t : List Nat) (lane : Int) (m : Nat) : logsF t lane (m + 1) = logsF t lane m ++ (if isLg t lane m then [m] else []) := by
 unfold logsF; rw [List.range_succ, List.filter_append]
 by_cases h : isLg t lane m = true <;> simp [h]
theorem logsR_succ (t : List Nat) (lane : Int) (m : Nat) : logsR t lane (m + 1) = logsR t lane m ++ logsN t lane m t.length := by
 unfold logsR; rw [List.range_succ, List.flatMap_append]; simp
theorem logsN_len (t : List Nat) (lane : Int) (n m : Nat) : (logsN t lane n m).length ≤ m := by
 unfold logsN
 have := List.length_filter_le (isLog t lane n) (List.range m)
 rw [List.length_range] at this; exact this
theorem logsF_len (t : List Nat) (lane : Int) (m : Nat) : (logsF t lane m).length ≤ m := by
 unfold logsF
 have := List.length_filter_le (isLg t lane) (List.range m)
 rw [List.length_range] at this; exact this
theorem logsR_len (t : List Nat) (lane : Int) : ∀ m, (logsR t lane m).length ≤ m * t.length
 | 0 => by simp [logsR]
 | m + 1 => by
   rw [logsR_succ, List.length_append, Nat.succ_mul]
   have := logsR_len t lane m
   have := logsN_len t lane m t.length
   omega
theorem logsF_lt {t : List Nat} {lane : Int} {m x : Nat} (h : x ∈ logsF t lane m) : x < m := by
 unfold logsF at h
 exact List.mem_range.1 (List.mem_filter.1 h).1
theorem pair_srt {g : Nat → Int} {d : List Nat} (h : d.Pairwise (fun x y => g x < g y)) : Srt g d 0 d.length := by
 intro i j _ hij hj
 have := (List.pairwise_iff_getElem.1 h) i j (by omega) hj hij
 rwa [List.getD_eq_getElem?_getD, List.getD_eq_getElem?_getD, List.getElem?_eq_getElem (by omega), List.getElem?_eq_getElem hj]
theorem logsF_asc (t : List Nat) (lane : Int) (m : Nat) : Srt nI (logsF t lane m) 0 (logsF t lane m).length := by
 refine pair_srt ?_
 unfold logsF
 refine List.Pairwise.filter _ ?_
 exact (List.pairwise_lt_range).imp (fun h => by unfold nI; omega)
theorem one_sorted_mem {g : Nat → Int} : ∀ {d e : List Nat}, (∀ x, x ∈ d ↔ x ∈ e) → d.Pairwise (fun x y => g x < g y) → e.Pairwise (fun x y => g x < g y) → d = e
 | [], [], _, _, _ => rfl
 | [], y :: e, h, _, _ => absurd ((h y).2 (List.mem_cons_self ..)) (by simp)
 | x :: d, [], h, _, _ => absurd ((h x).1 (List.mem_cons_self ..)) (by simp)
 | x :: d, y :: e, h, h1, h2 => by
   rw [List.pairwise_cons] at h1 h2
   have hxy : x = y := by
    rcases List.mem_cons.1 ((h x).1 (List.mem_cons_self ..)) with q | q
    ·exact q
    ·rcases List.mem_cons.1 ((h y).2 (List.mem_cons_self ..)) with r | r
     ·exact r.symm
     ·have := h2.1 x q
      have := h1.1 y r
      omega
   subst hxy
   rw [one_sorted_mem (fun z => ?_) h1.2 h2.2]
   constructor
   ·intro hz
    rcases List.mem_cons.1 ((h z).1 (List.mem_cons_of_mem _ hz)) with q | q
    ·subst q; have := h1.1 z hz; omega
    ·exact q
   ·intro hz
    rcases List.mem_cons.1 ((h z).2 (List.mem_cons_of_mem _ hz)) with q | q
    ·subst q; have := h2.1 z hz; omega
    ·exact q
def keyL (t : List Nat) (x : Nat) : Int := (mN (t.getD x 0) : Nat)
def keyT (t : List Nat) (N : Nat) (x : Nat) : Int := keyL t x * N + x
theorem logsR_srt (t : List Nat) (lane : Int) (N : Nat) (hN : t.length ≤ N) (m : Nat) : (logsR t lane m).Pairwise (fun x y => keyT t N x < keyT t N y) := by
 unfold logsR
 rw [List.pairwise_flatMap]
 constructor
 ·intro n _
  unfold logsN
  rw [List.pairwise_filter]
  refine (List.pairwise_lt_range).imp (fun {x y} h hx hy => ?_)
  unfold isLog at hx hy
  simp only [Bool.and_eq_true, decide_eq_true_eq] at hx hy
  unfold keyT keyL
  rw [hx.2, hy.2]; omega
 ·refine (List.pairwise_lt_range).imp (fun {a b} hab x hx y hy => ?_)
  unfold logsN at hx hy
  rw [List.mem_filter, List.mem_range] at hx hy
  unfold isLog at hx hy
  simp only [Bool.and_eq_true, decide_eq_true_eq] at hx hy
  unfold keyT keyL
  rw [hx.2.2, hy.2.2]
  have h1 : ((a : Int) + 1) * (N : Int) ≤ b * N := Int.mul_le_mul_of_nonneg_right (by omega) (by omega)
  rw [Int.add_mul] at h1
  omega
theorem logs_mem (t : List Nat) (lane : Int) (h8 : ∀ i, i < t.length → kN (t.getD i 0) = 4 → mN (t.getD i 0) < 8) (x : Nat) : x ∈ logsF t lane t.length ↔ x ∈ logsR t lane 8 := by
 unfold logsF logsR logsN isLog isLg
 simp only [List.mem_filter, List.mem_range, List.mem_flatMap, Bool.and_eq_true, decide_eq_true_eq]
 constructor
 ·rintro ⟨h1, h2, h3⟩
  exact ⟨_, h8 x h1 h2, h1, ⟨h2, h3⟩, rfl⟩
 ·rintro ⟨n, _, h1, ⟨h2, h3⟩, _⟩
  exact ⟨h1, h2, h3⟩
theorem logs_done {t : List Nat} {lane : Int} {N : Nat} {e : List Nat} (hN : t.length ≤ N) (h8 : ∀ i, i < t.length → kN (t.getD i 0) = 4 → mN (t.getD i 0) < 8) (hp : e.Perm (logsF t lane t.length)) (hs : Srt (keyT t N) e 0 e.length) : e = logsR t lane 8 :=
 one_sorted_mem (fun x => (hp.mem_iff).trans (logs_mem t lane h8 x)) (srt_pair hs) (logsR_srt t lane N hN 8)
end Go.Proofs.YtkkbngcgphlikaaGreatDoor
end
section
namespace Go.Proofs.YtkkbngcgphlikaaGreatDoor
def movR (d : List Nat) (a p k : Nat) : Nat := if k = p then d.getD a 0 else if a ≤ k ∧ k < p then d.getD (k + 1) 0 else d.getD k 0
structure Mvr (d e : List Nat) (a p b : Nat) : Prop where
 at_ : ∀ k, e.getD k 0 = movR d a p k
 mv : Mv a b d e
theorem Mvr.start (d : List Nat) (a b : Nat) : Mvr d d a a b := ⟨fun k => by
 unfold movR
 by_cases h : k = a
 ·rw [if_pos h, h]
 ·rw [if_neg h, if_neg (by omega)], Mv.refl _ _ _⟩
theorem Mvr.step {d e : List Nat} {a p b : Nat} (h : Mvr d e a p b) (ha : a ≤ p) (hp : p + 1 < b) (hb : b ≤ d.length) : Mvr d (swL e p (p + 1)) a (p + 1) b := by
 have hl := h.mv.len
 refine ⟨fun k => ?_, h.mv.trans (Mv.swap (by omega) (by omega) (by omega) (by omega) (by omega))⟩
 rw [swL_at (by omega) (by omega), h.at_, h.at_, h.at_]
 unfold movR
 by_cases e1 : k = p + 1
 ·subst e1
  rw [if_pos rfl, if_pos rfl, if_pos rfl]
 ·rw [if_neg e1, if_neg e1]
  by_cases e2 : k = p
  ·subst e2
   rw [if_pos rfl, if_neg (by omega), if_neg (by omega), if_pos (by omega)]
  ·rw [if_neg e2, if_neg e2]
   by_cases q : a ≤ k ∧ k < p
   ·rw [if_pos q, if_pos (by omega)]
   ·rw [if_neg q, if_neg (by omega)]
theorem Mvr.done {g : Nat → Int} {d e : List Nat} {a p b : Nat} (h : Mvr d e a p b) (hs : Srt g d (a + 1) b) (hp : p < b) (hap : a ≤ p) (h1 : ∀ q, a + 1 ≤ q → q ≤ p → g (d.getD q 0) < g (d.getD a 0)) (h2 : ∀ q, p < q → q < b → g (d.getD a 0) < g (d.getD q 0)) : Srt g e a b := by
 intro x y x1 x2 x3
 rw [h.at_, h.at_]
 unfold movR
 by_cases e1 : x = p
 ·subst e1
  rw [if_pos rfl, if_neg (by omega), if_neg (by omega)]
  exact h2 _ (by omega) (by omega)
 ·rw [if_neg e1]
  by_cases e2 : y = p
  ·subst e2
   rw [if_pos rfl, if_pos (by omega)]
   exact h1 _ (by omega) (by omega)
  ·rw [if_neg e2]
   by_cases k1 : a ≤ x ∧ x < p
   ·rw [if_pos k1]
    by_cases k2 : a ≤ y ∧ y < p
    ·rw [if_pos k2]; exact hs _ _ (by omega) (by omega) (by omega)
    ·rw [if_neg k2]; exact hs _ _ (by omega) (by omega) (by omega)
   ·rw [if_neg k1, if_neg (by omega)]
    exact hs _ _ (by omega) (by omega) (by omega)
theorem half_lo {g : Nat → Int} {d : List Nat} {lo hi h x : Nat} (hs : Srt g d lo hi) (hh : h < hi) (hx : g (d.getD h 0) < g (d.getD x 0)) : ∀ q, lo ≤ q → q < h + 1 → g (d.getD q 0) < g (d.getD x 0) := fun q q1 q2 => by
 have := le_of_srt hs (i := q) (j := h) q1 (by omega) hh
 omega
theorem half_hi {g : Nat → Int} {d : List Nat} {lo hi h x : Nat} (hs : Srt g d lo hi) (hl : lo ≤ h) (hx : g (d.getD x 0) < g (d.getD h 0)) : ∀ q, h ≤ q → q < hi → g (d.getD x 0) < g (d.getD q 0) := fun q q1 q2 => by
 have := le_of_srt hs (i := h) (j := q) hl q1 q2
 omega
theorem getD_mem_ {d : List Nat} {i : Nat} (h : i < d.length) : d.getD i 0 ∈ d := by
 rw [List.getD_eq_getElem?_getD, List.getElem?_eq_getElem h]; exact List.getElem_mem h
theorem lss_lt {d : List Nat} {lo hi lo2 hi2 i j : Nat} (h : Lss nI d lo hi lo2 hi2) (h1 : lo ≤ i) (h2 : i < hi) (h3 : lo2 ≤ j) (h4 : j < hi2) : d.getD i 0 < d.getD j 0 := nI_lt (h i j h1 h2 h3 h4)
theorem rotF_id {d : List Nat} {lo m hi : Nat} (h : lo = m ∨ m = hi) (k : Nat) : rotF d lo m hi k = d.getD k 0 := by
 unfold rotF
 by_cases k1 : lo ≤ k ∧ k < hi
 ·rw [if_pos k1]
  rcases h with h | h
  ·rw [if_pos (by omega)]; congr 1; omega
  ·rw [if_neg (by omega)]; congr 1; omega
 ·rw [if_neg k1]
theorem Cut.fin {g : Nat → Int} {d e e1 e2 : List Nat} {a m b s0 r0 start en : Nat} (c : Cut g d a m b s0 r0 start en) (l : Srt g d a m) (r : Srt g d m b) (hr : ∀ i, e.getD i 0 = rotF d start m en i)
 (m1 : Mv a ((a + b) / 2) e e1) (s1 : Srt g e1 a ((a + b) / 2)) (m2 : Mv ((a + b) / 2) b e1 e2) (s2 : Srt g e2 ((a + b) / 2) b) : Srt g e2 a b :=
 Srt.join (s1.mv m2 (.inr (Nat.le_refl _))) s2 (((c.mid l r hr).mv1 m1).mv2 m2)
theorem Srt.both {g : Nat → Int} {d : List Nat} {lo mid hi : Nat} (h1 : Srt g d lo mid) (h2 : Srt g d mid hi) (h : mid ≤ lo ∨ hi ≤ mid) : Srt g d lo hi := fun i j a b c => by
 rcases h with h | h
 ·exact h2 i j (by omega) b c
 ·exact h1 i j a b (by omega)
end Go.Proofs.YtkkbngcgphlikaaGreatDoor
end
section
namespace Go.Proofs.YtkkbngcgphlikaaGreatDoor
open Go.RowKit
def Deb (w : World) : Prop := True
theorem Deb.keep {W w1 : World} {n : Nat} (h : Deb W) (hb : Below n W w1) : Deb w1 := trivial
end Go.Proofs.YtkkbngcgphlikaaGreatDoor
end
section
namespace Go.Proofs.YtkkbngcgphlikaaGreatDoor
open Go.RowKit
def CC (w : World) (b : Nat) (x y : Int) : Prop := w.cell? ⟨b, 0, none⟩ = some (.int .i64 x) ∧ w.cell? ⟨b, 1, none⟩ = some (.int .i64 y)
theorem CC.lt {w : World} {b : Nat} {x y : Int} (h : CC w b x y) : b < w.heap.size := World.block_lt_of_cell? w _ h.1
theorem CC.keep {W w1 : World} {b : Nat} {x y : Int} (h : CC W b x y) (hb : Below W.heap.size W w1) : CC w1 b x y :=
 ⟨by rw [(bcell hb).1 _ _ h.lt]; exact h.1, by rw [(bcell hb).1 _ _ h.lt]; exact h.2⟩
def Pl (w : World) : Prop :=
 CC w 0 0 3 ∧ CC w 1 3 2 ∧ CC w 2 5 6 ∧ CC w 3 11 13 ∧ CC w 4 24 8
theorem Pl.keep {W w1 : World} (h : Pl W) (hb : Below W.heap.size W w1) : Pl w1 :=
 ⟨h.1.keep hb, h.2.1.keep hb, h.2.2.1.keep hb, h.2.2.2.1.keep hb, h.2.2.2.2.keep hb⟩
theorem or_add (k : Nat) (y x : Nat) (hy : y < 2 ^ k) (h : y + 2 ^ k * x < 18446744073709551616) : bits .or .u64 (y : Int) ((2 ^ k * x : Nat) : Int) = ((y + 2 ^ k * x : Nat) : Int) := by
 rw [u64_or_nat y (2 ^ k * x) (by omega) (by omega)]
 congr 1
 rw [Nat.or_comm, ← Nat.two_pow_add_eq_or_of_lt hy, Nat.add_comm]
theorem putI_zero (a m v : Nat) (hv : v < 2 ^ m) : putI 0 a m v = ((2 ^ a * v : Nat) : Int) := by
 unfold putI putN
 simp only [Int.toNat_natCast, Int.toNat_zero, Nat.zero_mod, Nat.zero_div, Nat.zero_mul, Nat.zero_add, Nat.add_zero, Nat.mod_eq_of_lt hv, Nat.mul_comm]
theorem pin_any (x : Int) (a m : Int) (w : World) (h0 : 0 ≤ x) (h1 : x < 18446744073709551616) (ha : 0 ≤ a) (hm : 1 ≤ m) (h2 : m ≤ 64) (h3 : a ≤ 64 - m) :
 Calls Tryz.prog 168 #[.agg #[.int .i64 a, .int .i64 m], .int .u64 x] w fun e w' => e = .returned (.int .u64 (getI x a m)) ∧ Below w.heap.size w w' := by
 go_enter Tryz.func168, Tryz.ntmps168
 go_wp2_with fail
 refine (get_yes x a m _ h0 h1 ha hm h2 h3).mono ?_
 rintro e w' ⟨rfl, rfl⟩
 go_wp2_with fail
 go_ret
 exact ⟨rfl, bZ _ _⟩
theorem pof_any (a m v : Int) (w : World) (ha : 0 ≤ a) (hm : 1 ≤ m) (h2 : m ≤ 64) (h3 : a ≤ 64 - m) (hv0 : 0 ≤ v) (hv1 : v < 18446744073709551616) :
 Calls Tryz.prog 172 #[.agg #[.int .i64 a, .int .i64 m], .int .u64 v] w fun e w' => e = .returned (.int .u64 (putI 0 a m v)) ∧ Below w.heap.size w w' := by
 go_enter Tryz.func172, Tryz.ntmps172
 go_wp2_with fail
 refine (put_yes 0 a m v _ (by omega) (by omega) ha hm h2 h3 hv0 hv1).mono ?_
 rintro e w' ⟨rfl, rfl⟩
 go_wp2_with fail
 go_ret
 exact ⟨rfl, bZ _ _⟩
theorem of_kind (v : Int) (w : World) (h0 : 0 ≤ v) (h1 : v < 8) :
 Calls Tryz.prog 172 #[.agg #[.int .i64 0, .int .i64 3], .int .u64 v] w fun e w' => e = .returned (.int .u64 v) ∧ Below w.heap.size w w' := by
 obtain ⟨n, rfl⟩ := Int.eq_ofNat_of_zero_le h0
 have := pof_any 0 3 n w (by omega) (by omega) (by omega) (by omega) (by omega) (by omega)
 rwa [show putI 0 0 3 (n : Int) = (n : Int) by have := putI_zero 0 3 n (by omega); simpa using this] at this
theorem of_class (v : Int) (w : World) (h0 : 0 ≤ v) (h1 : v < 4) :
 Calls Tryz.prog 172 #[.agg #[.int .i64 3, .int .i64 2], .int .u64 v] w fun e w' => e = .returned (.int .u64 (8 * v)) ∧ Below w.heap.size w w' := by
 obtain ⟨n, rfl⟩ := Int.eq_ofNat_of_zero_le h0
 have := pof_any 3 2 n w (by omega) (by omega) (by omega) (by omega) (by omega) (by omega)
 rwa [show putI 0 3 2 (n : Int) = 8 * (n : Int) by have := putI_zero 3 2 n (by omega); simpa using this] at this
theorem of_lane (v : Int) (w : World) (h0 : 0 ≤ v) (h1 : v < 64) :
 Calls Tryz.prog 172 #[.agg #[.int .i64 5, .int .i64 6], .int .u64 v] w fun e w' => e = .returned (.int .u64 (32 * v)) ∧ Below w.heap.size w w' := by
 obtain ⟨n, rfl⟩ := Int.eq_ofNat_of_zero_le h0
 have := pof_any 5 6 n w (by omega) (by omega) (by omega) (by omega) (by omega) (by omega)
 rwa [show putI 0 5 6 (n : Int) = 32 * (n : Int) by have := putI_zero 5 6 n (by omega); simpa using this] at this
theorem of_many (v : Int) (w : World) (h0 : 0 ≤ v) (h1 : v < 8192) :
 Calls Tryz.prog 172 #[.agg #[.int .i64 11, .int .i64 13], .int .u64 v] w fun e w' => e = .returned (.int .u64 (2048 * v)) ∧ Below w.heap.size w w' := by
 obtain ⟨n, rfl⟩ := Int.eq_ofNat_of_zero_le h0
 have := pof_any 11 13 n w (by omega) (by omega) (by omega) (by omega) (by omega) (by omega)
 rwa [show putI 0 11 13 (n : Int) = 2048 * (n : Int) by have := putI_zero 11 13 n (by omega); simpa using this] at this
theorem of_bits (v : Int) (w : World) (h0 : 0 ≤ v) (h1 : v < 256) :
 Calls Tryz.prog 172 #[.agg #[.int .i64 24, .int .i64 8], .int .u64 v] w fun e w' => e = .returned (.int .u64 (16777216 * v)) ∧ Below w.heap.size w w' := by
 obtain ⟨n, rfl⟩ := Int.eq_ofNat_of_zero_le h0
 have := pof_any 24 8 n w (by omega) (by omega) (by omega) (by omega) (by omega) (by omega)
 rwa [show putI 0 24 8 (n : Int) = 16777216 * (n : Int) by have := putI_zero 24 8 n (by omega); simpa using this] at this
theorem or_class (k c : Int) (k0 : 0 ≤ k) (k1 : k < 8) (c0 : 0 ≤ c) (c1 : c < 4) : bits .or .u64 k (8 * c) = k + 8 * c := by
 obtain ⟨k, rfl⟩ := Int.eq_ofNat_of_zero_le k0
 obtain ⟨c, rfl⟩ := Int.eq_ofNat_of_zero_le c0
 simpa using or_add 3 k c (by omega) (by omega)
theorem or_lane (y l : Int) (k0 : 0 ≤ y) (k1 : y < 32) (c0 : 0 ≤ l) (c1 : l < 64) : bits .or .u64 y (32 * l) = y + 32 * l := by
 obtain ⟨k, rfl⟩ := Int.eq_ofNat_of_zero_le k0
 obtain ⟨c, rfl⟩ := Int.eq_ofNat_of_zero_le c0
 simpa using or_add 5 k c (by omega) (by omega)
theorem or_many (y l : Int) (k0 : 0 ≤ y) (k1 : y < 2048) (c0 : 0 ≤ l) (c1 : l < 8192) : bits .or .u64 y (2048 * l) = y + 2048 * l := by
 obtain ⟨k, rfl⟩ := Int.eq_ofNat_of_zero_le k0
 obtain ⟨c, rfl⟩ := Int.eq_ofNat_of_zero_le c0
 simpa using or_add 11 k c (by omega) (by omega)
theorem or_bits (y l : Int) (k0 : 0 ≤ y) (k1 : y < 16777216) (c0 : 0 ≤ l) (c1 : l < 256) : bits .or .u64 y (16777216 * l) = y + 16777216 * l := by
 obtain ⟨k, rfl⟩ := Int.eq_ofNat_of_zero_le k0
 obtain ⟨c, rfl⟩ := Int.eq_ofNat_of_zero_le c0
 simpa using or_add 24 k c (by omega) (by omega)
def C5 (w : World) (g : Nat) (k c l m b : Int) : Prop :=
 w.cell? ⟨g, 0, none⟩ = some (.int .i64 k) ∧ w.cell? ⟨g, 1, none⟩ = some (.int .i64 c) ∧ w.cell? ⟨g, 2, none⟩ = some (.int .i64 l) ∧ w.cell? ⟨g, 3, none⟩ = some (.int .i64 m) ∧ w.cell? ⟨g, 4, none⟩ = some (.int .u64 b)
theorem C5.lt {w : World} {g : Nat} {k c l m b : Int} (h : C5 w g k c l m b) : g < w.heap.size := World.block_lt_of_cell? w _ h.1
theorem C5.keep {W w1 : World} {g : Nat} {k c l m b : Int} (h : C5 W g k c l m b) (hb : Below W.heap.size W w1) : C5 w1 g k c l m b := by
 obtain ⟨h0, h1, h2, h3, h4⟩ := id h
 have hl := h.lt
 refine ⟨?_, ?_, ?_, ?_, ?_⟩ <;> (rw [(bcell hb).1 _ _ hl]; assumption)
theorem C5.new (w : World) (k c l m b : Int) (t : TypeId) : C5 (w.alloc (.cells #[.int .i64 k, .int .i64 c, .int .i64 l, .int .i64 m, .int .u64 b] t)) w.heap.size k c l m b := by
 refine ⟨?_, ?_, ?_, ?_, ?_⟩ <;> simp [go_sem]
def wordI (k c l m b : Int) : Int := k + 8 * c + 32 * l + 2048 * m + 16777216 * b
theorem word_any (k c l m b : Int) (w : World) (hp : Pl w) (k0 : 0 ≤ k) (k1 : k < 8) (c0 : 0 ≤ c) (c1 : c < 4) (l0 : 0 ≤ l) (l1 : l < 64) (m0 : 0 ≤ m) (m1 : m < 8192) (b0 : 0 ≤ b) (b1 : b < 256) :
 Calls Tryz.prog 143 #[.agg #[.int .i64 k, .int .i64 c, .int .i64 l, .int .i64 m, .int .u64 b]] w fun e w' => e = .returned (.int .u64 (wordI k c l m b)) ∧ Below w.heap.size w w' := by
 have e1 := or_class k c k0 k1 c0 c1
 have e2 := or_lane (k + 8 * c) l (by omega) (by omega) l0 l1
 have e3 := or_many (k + 8 * c + 32 * l) m (by omega) (by omega) m0 m1
 have e4 := or_bits (k + 8 * c + 32 * l + 2048 * m) b (by omega) (by omega) b0 b1
 have f1 : IntKind.u64.wrap k = k := by rw [IntKind.wrap_u64]; omega
 have f2 : IntKind.u64.wrap c = c := by rw [IntKind.wrap_u64]; omega
 have f3 : IntKind.u64.wrap l = l := by rw [IntKind.wrap_u64]; omega
 have f4 : IntKind.u64.wrap m = m := by rw [IntKind.wrap_u64]; omega
 have hp1 := hp.keep (bZ w (.cells #[.int .i64 k, .int .i64 c, .int .i64 l, .int .i64 m, .int .u64 b] 109))
 obtain ⟨⟨p00, p01⟩, ⟨p10, p11⟩, ⟨p20, p21⟩, ⟨p30, p31⟩, ⟨p40, p41⟩⟩ := id hp1
 have hsz : 4 < w.heap.size ∧ 0 < w.heap.size ∧ 1 < w.heap.size ∧ 2 < w.heap.size ∧ 3 < w.heap.size := ⟨hp.2.2.2.2.lt, hp.1.lt, hp.2.1.lt, hp.2.2.1.lt, hp.2.2.2.1.lt⟩
 obtain ⟨z4, z0, z1, z2, z3⟩ := hsz
 clear hp
 go_enter Tryz.func143, Tryz.ntmps143
 go_wp2_with fail
 go_region_held3 (fun w' => w'.cell? ⟨w.heap.size, 0, none⟩ = some (.int .i64 k) ∧ w'.cell? ⟨w.heap.size, 1, none⟩ = some (.int .i64 c) ∧ w'.cell? ⟨w.heap.size, 2, none⟩ = some (.int .i64 l) ∧ w'.cell? ⟨w.heap.size, 3, none⟩ = some (.int .i64 m) ∧ w'.cell? ⟨w.heap.size, 4, none⟩ = some (.int .u64 b) ∧ w.heap.size < w'.heap.size ∧ Below w.heap.size w w' ∧ Pl w' ∧ w'.cell? ⟨0, 0, none⟩ = some (.int .i64 0) ∧ w'.cell? ⟨0, 1, none⟩ = some (.int .i64 3) ∧ w'.cell? ⟨1, 0, none⟩ = some (.int .i64 3) ∧ w'.cell? ⟨1, 1, none⟩ = some (.int .i64 2) ∧ w'.cell? ⟨2, 0, none⟩ = some (.int .i64 5) ∧ w'.cell? ⟨2, 1, none⟩ = some (.int .i64 6))
  (((try go_split_ands); refine ⟨?_, ?_, ?_, ?_, ?_, ?_, ?_, ?_, ?_, ?_, ?_, ?_, ?_, ?_⟩ <;> first | assumption | (exact hp1) | (rw [hb.cell (by assumption)]; assumption) | (rw [hb.cell (Nat.lt_trans z0 (by assumption))]; assumption) | (rw [hb.cell (Nat.lt_trans z1 (by assumption))]; assumption) | (rw [hb.cell (Nat.lt_trans z2 (by assumption))]; assumption) | (exact Pl.keep (by assumption) hb) | (have := hb.size; omega) | (exact Below.trans (by assumption) (hb.mono (Nat.le_of_lt (by assumption)))) | (go_keep; done) | (go_grown; done)))
  ((first | (go_at_call 172; (with_reducible refine (of_kind k _ k0 k1).mono ?_); rintro e w8 ⟨rfl, hb⟩) | (go_at_call 172; (with_reducible refine (of_class c _ c0 c1).mono ?_); rintro e w8 ⟨rfl, hb⟩) | (go_at_call 172; (with_reducible refine (of_lane l _ l0 l1).mono ?_); rintro e w8 ⟨rfl, hb⟩)))
 go_wp2_with fail
 go_split_ands
 clear hp1 p00 p01 p10 p11 p20 p21 p30 p31 p40 p41
 have hp2 := ‹Pl _›
 obtain ⟨_, _, _, ⟨p30, p31⟩, ⟨p40, p41⟩⟩ := id hp2
 go_region_held3 (fun w' => w'.cell? ⟨w.heap.size, 3, none⟩ = some (.int .i64 m) ∧ w'.cell? ⟨w.heap.size, 4, none⟩ = some (.int .u64 b) ∧ w.heap.size < w'.heap.size ∧ Below w.heap.size w w' ∧ w'.cell? ⟨3, 0, none⟩ = some (.int .i64 11) ∧ w'.cell? ⟨3, 1, none⟩ = some (.int .i64 13) ∧ w'.cell? ⟨4, 0, none⟩ = some (.int .i64 24) ∧ w'.cell? ⟨4, 1, none⟩ = some (.int .i64 8))
  (((try go_split_ands); refine ⟨?_, ?_, ?_, ?_, ?_, ?_, ?_, ?_⟩ <;> first | assumption | (rw [hb.cell (by assumption)]; assumption) | (rw [hb.cell (Nat.lt_trans z3 (by assumption))]; assumption) | (rw [hb.cell (Nat.lt_trans z4 (by assumption))]; assumption) | (have := hb.size; omega) | (exact Below.trans (by assumption) (hb.mono (Nat.le_of_lt (by assumption)))) | (go_keep; done) | (go_grown; done)))
  ((first | (go_at_call 172; (with_reducible refine (of_many m _ m0 m1).mono ?_); rintro e w8 ⟨rfl, hb⟩) | (go_at_call 172; (with_reducible refine (of_bits b _ b0 b1).mono ?_); rintro e w8 ⟨rfl, hb⟩)))
 go_wp2_with fail
 go_ret
 go_split_ands
 exact ⟨ret_i (by first | rfl | (unfold wordI; omega)), by assumption⟩
end Go.Proofs.YtkkbngcgphlikaaGreatDoor
end
section
namespace Go.Proofs.YtkkbngcgphlikaaGreatDoor
open Go.RowKit
theorem end_any (s c g : Int) (w : World) :
 Calls Tryz.prog 72 #[.agg #[.int .i64 s, .int .i64 c, .int .u64 g]] w fun e w' => e = .returned (.agg #[.int .i64 0, .int .i64 0, .int .u64 g]) ∧ Below w.heap.size w w' := by
 go_enter Tryz.func72, Tryz.ntmps72
 go_wp2
 go_returns
 exact ⟨rfl, by go_grown⟩
theorem right_idle (c g : Int) (w : World) (hc : c = 0) (hg : g ≤ 281474976710655) :
 Calls Tryz.prog 166 #[.agg #[.int .i64 0, .int .i64 c, .int .u64 g]] w fun e w' => e = .returned (.bool true) ∧ Below w.heap.size w w' := by
 subst hc
 go_enter Tryz.func166, Tryz.ntmps166
 go_wp2
 go_region_held3 (fun w' => w'.cell? ⟨w.heap.size, 0, none⟩ = some (.int .i64 0) ∧ w'.cell? ⟨w.heap.size, 1, none⟩ = some (.int .i64 0) ∧ w'.cell? ⟨w.heap.size, 2, none⟩ = some (.int .u64 g) ∧ w.heap.size < w'.heap.size ∧ Below w.heap.size w w')
  (((try go_split_ands); refine ⟨?_, ?_, ?_, ?_, ?_⟩ <;> first
    | (rw [hb.cell (by assumption)]; assumption) | (have := hb.size; omega) | (exact Below.trans (by assumption) (hb.mono (Nat.le_of_lt (by assumption))))
    | (go_keep; done) | (go_grown; done)))
  ((go_at_call 72; refine (end_any _ _ _ _).mono ?_; rintro e w2 ⟨rfl, hb⟩))
 go_wp2
 go_ret
 go_split_ands
 exact ⟨rfl, by assumption⟩
theorem right_idle_no (c g : Int) (w : World) (hc : c ≠ 0) (hg : g ≤ 281474976710655) :
 Calls Tryz.prog 166 #[.agg #[.int .i64 0, .int .i64 c, .int .u64 g]] w fun e w' => e = .returned (.bool false) ∧ Below w.heap.size w w' := by
 go_enter Tryz.func166, Tryz.ntmps166
 go_wp2
 have hc1 : (c == 0) = false := by simpa using hc
 go_region_held3 (fun w' => w'.cell? ⟨w.heap.size, 0, none⟩ = some (.int .i64 0) ∧ w'.cell? ⟨w.heap.size, 1, none⟩ = some (.int .i64 c) ∧ w'.cell? ⟨w.heap.size, 2, none⟩ = some (.int .u64 g) ∧ w.heap.size < w'.heap.size ∧ Below w.heap.size w w')
  (((try go_split_ands); refine ⟨?_, ?_, ?_, ?_, ?_⟩ <;> first
    | (rw [hb.cell (by assumption)]; assumption) | (have := hb.size; omega) | (exact Below.trans (by assumption) (hb.mono (Nat.le_of_lt (by assumption))))
    | (go_keep; done) | (go_grown; done)))
  ((go_at_call 72; refine (end_any _ _ _ _).mono ?_; rintro e w2 ⟨rfl, hb⟩))
 go_wp2
 go_ret
 go_split_ands
 exact ⟨rfl, by assumption⟩
theorem right_work (s c g : Int) (w : World) (hs : 1 ≤ s) (hs2 : s ≤ 2) (hc : 0 ≤ c) (hc2 : c ≤ 16383) (hg : g ≤ 281474976710655) :
 Calls Tryz.prog 166 #[.agg #[.int .i64 s, .int .i64 c, .int .u64 g]] w fun e w' => e = .returned (.bool true) ∧ Below w.heap.size w w' := by
 go_enter Tryz.func166, Tryz.ntmps166
 go_wp2
 go_ret
 exact ⟨rfl, by go_grown⟩
theorem right_work_no (s c g : Int) (w : World) (hs : 1 ≤ s) (hs2 : s ≤ 2) (hc : c < 0 ∨ 16383 < c) (hg : g ≤ 281474976710655) :
 Calls Tryz.prog 166 #[.agg #[.int .i64 s, .int .i64 c, .int .u64 g]] w fun e w' => e = .returned (.bool false) ∧ Below w.heap.size w w' := by
 rcases hc with hc | hc
 ·go_enter Tryz.func166, Tryz.ntmps166
  go_wp2
  go_ret
  exact ⟨rfl, by go_grown⟩
 ·go_enter Tryz.func166, Tryz.ntmps166
  go_wp2
  go_ret
  exact ⟨ret_b (by simp; omega), by go_grown⟩
theorem right_out (s c g : Int) (w : World) (h : s < 0 ∨ 2 < s ∨ (0 ≤ s ∧ s ≤ 2 ∧ 281474976710655 < g)) :
 Calls Tryz.prog 166 #[.agg #[.int .i64 s, .int .i64 c, .int .u64 g]] w fun e w' => e = .returned (.bool false) ∧ Below w.heap.size w w' := by
 rcases h with h | h | ⟨h, h2, h3⟩
 ·go_enter Tryz.func166, Tryz.ntmps166
  go_wp2
  go_ret
  exact ⟨rfl, by go_grown⟩
 ·go_enter Tryz.func166, Tryz.ntmps166
  go_wp2
  go_ret
  exact ⟨rfl, by go_grown⟩
 ·go_enter Tryz.func166, Tryz.ntmps166
  go_wp2
  go_ret
  exact ⟨rfl, by go_grown⟩
def okB (s c g : Int) : Bool := decide (0 ≤ s ∧ s ≤ 2 ∧ 0 ≤ c ∧ c ≤ 16383 ∧ g ≤ 281474976710655 ∧ (s = 0 → c = 0))
theorem okB_t {s c g : Int} (h : okB s c g = true) : 0 ≤ s ∧ s ≤ 2 ∧ 0 ≤ c ∧ c ≤ 16383 ∧ g ≤ 281474976710655 ∧ (s = 0 → c = 0) := of_decide_eq_true h
theorem okB_f {s c g : Int} (h : okB s c g = false) : ¬ (0 ≤ s ∧ s ≤ 2 ∧ 0 ≤ c ∧ c ≤ 16383 ∧ g ≤ 281474976710655 ∧ (s = 0 → c = 0)) := of_decide_eq_false h
theorem right_t_mk (s c g : Int) (w : World) (h : okB s c g = true) :
 Calls Tryz.prog 166 #[.agg #[.int .i64 s, .int .i64 c, .int .u64 g]] w fun e w' => e = .returned (.bool true) ∧ Below w.heap.size w w' := by
 obtain ⟨h1, h2, h3, h4, h5, h6⟩ := okB_t h
 by_cases hs : s = 0
 ·subst hs; exact right_idle c g w (h6 rfl) h5
 ·exact right_work s c g w (by omega) h2 h3 h4 h5
theorem right_f_mk (s c g : Int) (w : World) (h : okB s c g = false) :
 Calls Tryz.prog 166 #[.agg #[.int .i64 s, .int .i64 c, .int .u64 g]] w fun e w' => e = .returned (.bool false) ∧ Below w.heap.size w w' := by
 have h1 := okB_f h
 by_cases ho : s < 0 ∨ 2 < s ∨ (0 ≤ s ∧ s ≤ 2 ∧ 281474976710655 < g)
 ·exact right_out s c g w ho
 ·by_cases hs : s = 0
  ·subst hs; exact right_idle_no c g w (by omega) (by omega)
  ·exact right_work_no s c g w (by omega) (by omega) (by omega) (by omega)
theorem refRight_t_mk (s c g : Int) (w : World) (h : okB s c g = true) :
 Calls Tryz.prog 140 #[.agg #[.int .i64 s, .int .i64 c, .int .u64 g]] w fun e w' => e = .returned (.bool true) ∧ Below w.heap.size w w' := by
 obtain ⟨h1, h2, h3, h4, h5, h6⟩ := okB_t h
 by_cases hs : s = 0
 ·subst hs
  obtain rfl := h6 rfl
  clear h6
  go_enter Tryz.func140, Tryz.ntmps140
  go_wp2
  go_ret
  exact ⟨rfl, by go_grown⟩
 ·clear h6
  have hs1 : 1 ≤ s := by omega
  go_enter Tryz.func140, Tryz.ntmps140
  go_wp2
  go_ret
  exact ⟨rfl, by go_grown⟩
theorem refRight_f_mk (s c g : Int) (w : World) (h : okB s c g = false) :
 Calls Tryz.prog 140 #[.agg #[.int .i64 s, .int .i64 c, .int .u64 g]] w fun e w' => e = .returned (.bool false) ∧ Below w.heap.size w w' := by
 have h1 := okB_f h
 clear h
 by_cases a1 : s < 0
 ·clear h1
  go_enter Tryz.func140, Tryz.ntmps140
  go_wp2
  go_ret
  exact ⟨rfl, by go_grown⟩
 by_cases a2 : 2 < s
 ·clear h1
  go_enter Tryz.func140, Tryz.ntmps140
  go_wp2
  go_ret
  exact ⟨rfl, by go_grown⟩
 by_cases a3 : c < 0
 ·clear h1
  go_enter Tryz.func140, Tryz.ntmps140
  go_wp2
  go_ret
  exact ⟨rfl, by go_grown⟩
 by_cases a4 : 16383 < c
 ·clear h1
  go_enter Tryz.func140, Tryz.ntmps140
  go_wp2
  go_ret
  exact ⟨rfl, by go_grown⟩
 by_cases a5 : 281474976710655 < g
 ·clear h1
  go_enter Tryz.func140, Tryz.ntmps140
  go_wp2
  go_ret
  exact ⟨rfl, by go_grown⟩
 have hs : s = 0 := by omega
 have hc1 : 1 ≤ c := by omega
 clear h1
 subst hs
 go_enter Tryz.func140, Tryz.ntmps140
 go_wp2
 go_ret
 exact ⟨ret_b (by simp; omega), by go_grown⟩
end Go.Proofs.YtkkbngcgphlikaaGreatDoor
end
section
namespace Go.Proofs.YtkkbngcgphlikaaGreatDoor
theorem logsR_in {t : List Nat} {lane : Int} {m x : Nat} (h : x ∈ logsR t lane m) : x < t.length ∧ kN (t.getD x 0) = 4 ∧ ((lnN (t.getD x 0) : Nat) : Int) = lane := by
 unfold logsR logsN isLog at h
 simp only [List.mem_filter, List.mem_range, List.mem_flatMap, Bool.and_eq_true, decide_eq_true_eq] at h
 obtain ⟨_, _, h1, ⟨h2, h3⟩, _⟩ := h
 exact ⟨h1, h2, h3⟩
end Go.Proofs.YtkkbngcgphlikaaGreatDoor
end
