/-
  Mathematics of a lane's logs: in the order of their numbers, and of their places.
-/
import Derived.Test.YtnjifmecaeagaaaDoorSoM
import Derived.Test.YtnjifmecaeagaaaDoorTiM
set_option linter.unusedVariables false
namespace Go.Proofs.YtnjifmecaeagaaaDoor
/-- is a chunk a lane's log, with a number -/
def isLog (t : List Nat) (lane : Int) (n i : Nat) : Bool := decide (kN (t.getD i 0) = 4) && decide ((lnN (t.getD i 0) : Int) = lane) && decide (mN (t.getD i 0) = n)
def isLg (t : List Nat) (lane : Int) (i : Nat) : Bool := decide (kN (t.getD i 0) = 4) && decide ((lnN (t.getD i 0) : Int) = lane)
def logsN (t : List Nat) (lane : Int) (n m : Nat) : List Nat := (List.range m).filter (isLog t lane n)
def logsR (t : List Nat) (lane : Int) (m : Nat) : List Nat := (List.range m).flatMap fun n => logsN t lane n t.length
def logsF (t : List Nat) (lane : Int) (m : Nat) : List Nat := (List.range m).filter (isLg t lane)
def logsT (t : List Nat) (lane : Int) : List Nat := if t.all okN then logsR t lane 8 else []
theorem logsN_succ (t : List Nat) (lane : Int) (n m : Nat) : logsN t lane n (m + 1) = logsN t lane n m ++ (if isLog t lane n m then [m] else []) := by
  unfold logsN; rw [List.range_succ, List.filter_append]
  by_cases h : isLog t lane n m = true <;> simp [h]
theorem logsF_succ (t : List Nat) (lane : Int) (m : Nat) : logsF t lane (m + 1) = logsF t lane m ++ (if isLg t lane m then [m] else []) := by
  unfold logsF; rw [List.range_succ, List.filter_append]
  by_cases h : isLg t lane m = true <;> simp [h]
theorem logsR_succ (t : List Nat) (lane : Int) (m : Nat) : logsR t lane (m + 1) = logsR t lane m ++ logsN t lane m t.length := by
  unfold logsR; rw [List.range_succ, List.flatMap_append]; simp
theorem logsN_len (t : List Nat) (lane : Int) (n m : Nat) : (logsN t lane n m).length ≤ m := by
  unfold logsN
  have := List.length_filter_le (isLog t lane n) (List.range m)
  rw [List.length_range] at this; exact this
theorem logsF_len (t : List Nat) (lane : Int) (m : Nat) : (logsF t lane m).length ≤ m := by
  unfold logsF
  have := List.length_filter_le (isLg t lane) (List.range m)
  rw [List.length_range] at this; exact this
theorem logsR_len (t : List Nat) (lane : Int) : ∀ m, (logsR t lane m).length ≤ m * t.length
  | 0 => by simp [logsR]
  | m + 1 => by
    rw [logsR_succ, List.length_append, Nat.succ_mul]
    have := logsR_len t lane m
    have := logsN_len t lane m t.length
    omega
theorem logsF_lt {t : List Nat} {lane : Int} {m x : Nat} (h : x ∈ logsF t lane m) : x < m := by
  unfold logsF at h
  exact List.mem_range.1 (List.mem_filter.1 h).1
theorem pair_srt {g : Nat → Int} {d : List Nat} (h : d.Pairwise (fun x y => g x < g y)) : Srt g d 0 d.length := by
  intro i j _ hij hj
  have := (List.pairwise_iff_getElem.1 h) i j (by omega) hj hij
  rwa [List.getD_eq_getElem?_getD, List.getD_eq_getElem?_getD, List.getElem?_eq_getElem (by omega), List.getElem?_eq_getElem hj]
theorem logsF_asc (t : List Nat) (lane : Int) (m : Nat) : Srt nI (logsF t lane m) 0 (logsF t lane m).length := by
  refine pair_srt ?_
  unfold logsF
  refine List.Pairwise.filter _ ?_
  exact (List.pairwise_lt_range).imp (fun h => by unfold nI; omega)
theorem one_sorted_mem {g : Nat → Int} : ∀ {d e : List Nat}, (∀ x, x ∈ d ↔ x ∈ e) → d.Pairwise (fun x y => g x < g y) → e.Pairwise (fun x y => g x < g y) → d = e
  | [], [], _, _, _ => rfl
  | [], y :: e, h, _, _ => absurd ((h y).2 (List.mem_cons_self ..)) (by simp)
  | x :: d, [], h, _, _ => absurd ((h x).1 (List.mem_cons_self ..)) (by simp)
  | x :: d, y :: e, h, h1, h2 => by
    rw [List.pairwise_cons] at h1 h2
    have hxy : x = y := by
      rcases List.mem_cons.1 ((h x).1 (List.mem_cons_self ..)) with q | q
      · exact q
      · rcases List.mem_cons.1 ((h y).2 (List.mem_cons_self ..)) with r | r
        · exact r.symm
        · have := h2.1 x q
          have := h1.1 y r
          omega
    subst hxy
    rw [one_sorted_mem (fun z => ?_) h1.2 h2.2]
    constructor
    · intro hz
      rcases List.mem_cons.1 ((h z).1 (List.mem_cons_of_mem _ hz)) with q | q
      · subst q; have := h1.1 z hz; omega
      · exact q
    · intro hz
      rcases List.mem_cons.1 ((h z).2 (List.mem_cons_of_mem _ hz)) with q | q
      · subst q; have := h2.1 z hz; omega
      · exact q
def keyL (t : List Nat) (x : Nat) : Int := (mN (t.getD x 0) : Nat)
def keyT (t : List Nat) (N : Nat) (x : Nat) : Int := keyL t x * N + x
theorem logsR_srt (t : List Nat) (lane : Int) (N : Nat) (hN : t.length ≤ N) (m : Nat) : (logsR t lane m).Pairwise (fun x y => keyT t N x < keyT t N y) := by
  unfold logsR
  rw [List.pairwise_flatMap]
  constructor
  · intro n _
    unfold logsN
    rw [List.pairwise_filter]
    refine (List.pairwise_lt_range).imp (fun {x y} h hx hy => ?_)
    unfold isLog at hx hy
    simp only [Bool.and_eq_true, decide_eq_true_eq] at hx hy
    unfold keyT keyL
    rw [hx.2, hy.2]; omega
  · refine (List.pairwise_lt_range).imp (fun {a b} hab x hx y hy => ?_)
    unfold logsN at hx hy
    rw [List.mem_filter, List.mem_range] at hx hy
    unfold isLog at hx hy
    simp only [Bool.and_eq_true, decide_eq_true_eq] at hx hy
    unfold keyT keyL
    rw [hx.2.2, hy.2.2]
    have h1 : ((a : Int) + 1) * (N : Int) ≤ b * N := Int.mul_le_mul_of_nonneg_right (by omega) (by omega)
    rw [Int.add_mul] at h1
    omega
theorem logs_mem (t : List Nat) (lane : Int) (h8 : ∀ i, i < t.length → kN (t.getD i 0) = 4 → mN (t.getD i 0) < 8) (x : Nat) : x ∈ logsF t lane t.length ↔ x ∈ logsR t lane 8 := by
  unfold logsF logsR logsN isLog isLg
  simp only [List.mem_filter, List.mem_range, List.mem_flatMap, Bool.and_eq_true, decide_eq_true_eq]
  constructor
  · rintro ⟨h1, h2, h3⟩
    exact ⟨_, h8 x h1 h2, h1, ⟨h2, h3⟩, rfl⟩
  · rintro ⟨n, _, h1, ⟨h2, h3⟩, _⟩
    exact ⟨h1, h2, h3⟩
/-- what the sort leaves is what the document says -/
theorem logs_done {t : List Nat} {lane : Int} {N : Nat} {e : List Nat} (hN : t.length ≤ N) (h8 : ∀ i, i < t.length → kN (t.getD i 0) = 4 → mN (t.getD i 0) < 8) (hp : e.Perm (logsF t lane t.length)) (hs : Srt (keyT t N) e 0 e.length) : e = logsR t lane 8 :=
  one_sorted_mem (fun x => (hp.mem_iff).trans (logs_mem t lane h8 x)) (srt_pair hs) (logsR_srt t lane N hN 8)
end Go.Proofs.YtnjifmecaeagaaaDoor
