/-
  Part of the proof of JournalSteps.
-/
import Derived.Test.YtkkbngcgphlikaaGreatDoorRows
import Derived.Deep.RegionHeld3
import Derived.OwnWalkIn
import Derived.Handy
import Derived.Test.YtkkbngcgphlikaaGreatDoorJt0
set_option linter.unusedVariables false
set_option linter.unusedSimpArgs false
section
namespace Go.Proofs.YtkkbngcgphlikaaGreatDoor
section
variable {P : Program} {L : List Oper} {Q : Exit → Act → World → Prop} {md : Region.Mode} {S : World → Prop}
theorem takeL (i : Nat) {o : Oper} {v : Value} {fuel : Nat} {listed : Array Bool} {a : Act} {w : World} (hi : L[i]? = some o)
 (hs : Region.noSelect L.toArray = true) (hf : Region.free md L.toArray listed i = true) (hr : (Region.ready md L.toArray listed).contains i = true)
 (hQ : ∀ c a w, Q (.panic c) (a.put o.dst v) w → Q (.panic c) a w) (hw : Region.wanted o (yielded L.toArray a.tmps) = true) (hS : S w)
 (hy : ∀ w, S w → (execOp a.eval o).run P w = .ok (.value v) w)
 (h : wpAnyH P md L.toArray Q S fuel (listed.setIfInBounds i true) (a.put o.dst v) w) : wpAnyH P md L.toArray Q S (fuel + 1) listed a w :=
 wpAnyH_take (by simpa using hi) hs hf hr hQ (.inl ⟨hw, hy⟩) hS h
theorem idleL (i : Nat) {o : Oper} {fuel : Nat} {listed : Array Bool} {a : Act} {w : World} (hi : L[i]? = some o)
 (hs : Region.noSelect L.toArray = true) (hf : Region.free md L.toArray listed i = true) (hr : (Region.ready md L.toArray listed).contains i = true)
 (hQ : ∀ c a w, Q (.panic c) (a.put o.dst undef) w → Q (.panic c) a w) (hw : Region.wanted o (yielded L.toArray a.tmps) = false) (hS : S w)
 (h : wpAnyH P md L.toArray Q S fuel (listed.setIfInBounds i true) (a.put o.dst undef) w) : wpAnyH P md L.toArray Q S (fuel + 1) listed a w :=
 wpAnyH_take (by simpa using hi) hs hf hr hQ (.inr ⟨hw, rfl⟩) hS h
theorem oneL (i : Nat) {o : Oper} {fuel : Nat} {listed : Array Bool} {a : Act} {w : World} (hi : L[i]? = some o) (hr : Region.ready md L.toArray listed = [i])
 (h : ∀ K' : Act → World → Prop, Shut (∀ a w, S w → (S w → wpAnyH P md L.toArray Q S fuel (listed.setIfInBounds i true) a w) → K' a w) → if Region.wanted o (yielded L.toArray a.tmps) = true then Oper.wp P o a w K' Q else K' (a.put o.dst undef) w) :
 wpAnyH P md L.toArray Q S (fuel + 1) listed a w :=
 wpAnyH_ready hr (by simp) (AllReadyH.cons (by simpa using hi) h AllReadyH.nil)
theorem twoL (i j : Nat) {o o' : Oper} {fuel : Nat} {listed : Array Bool} {a : Act} {w : World} (hi : L[i]? = some o) (hj : L[j]? = some o') (hr : Region.ready md L.toArray listed = [i, j])
 (h : ∀ K' : Act → World → Prop, Shut (∀ a w, S w → (S w → wpAnyH P md L.toArray Q S fuel (listed.setIfInBounds i true) a w) → K' a w) → if Region.wanted o (yielded L.toArray a.tmps) = true then Oper.wp P o a w K' Q else K' (a.put o.dst undef) w)
 (h' : ∀ K' : Act → World → Prop, Shut (∀ a w, S w → (S w → wpAnyH P md L.toArray Q S fuel (listed.setIfInBounds j true) a w) → K' a w) → if Region.wanted o' (yielded L.toArray a.tmps) = true then Oper.wp P o' a w K' Q else K' (a.put o'.dst undef) w) :
 wpAnyH P md L.toArray Q S (fuel + 1) listed a w :=
 wpAnyH_ready hr (by simp) (AllReadyH.cons (by simpa using hi) h (AllReadyH.cons (by simpa using hj) h' AllReadyH.nil))
end
end Go.Proofs.YtkkbngcgphlikaaGreatDoor
end
section
namespace Go.Proofs.YtkkbngcgphlikaaGreatDoor
abbrev Sp := Int × Int
def totS (l : List Sp) : Int := (l.map (·.2)).sum
theorem totS_nil : totS [] = 0 := rfl
theorem totS_cons (x : Sp) (l : List Sp) : totS (x :: l) = x.2 + totS l := by unfold totS; simp
theorem totS_app (l m : List Sp) : totS (l ++ m) = totS l + totS m := by unfold totS; simp
end Go.Proofs.YtkkbngcgphlikaaGreatDoor
end
section
namespace Go.Proofs.YtkkbngcgphlikaaGreatDoor
section
variable {P : Program} {ops : Array Oper} {Q : Exit → Act → World → Prop}
theorem noDefer_spec {ops : Array Oper} (h : ops.all (fun o => match o.op with | .defer _ => false | _ => true) = true) : ∀ (i : Nat) (o : Oper), ops[i]? = some o → ∀ c, o.op ≠ .defer c := by
 intro i o hi c hc
 rw [Array.all_eq_true_iff_forall_mem] at h
 have := h o (Array.mem_of_getElem? hi)
 rw [hc] at this
 cases this
theorem oper_wr {l n : Nat} {o : Oper} {a : Act} {w : World} {K K' : Act → World → Prop} (hd : ∀ c, o.op ≠ .defer c) (hK : ∀ a w, K a w → K' a w) (hq : ¬ LetsOut Q)
 (h : o.wp P a w K Q) : o.wpIn (Fence.wide.inRound l) n P a w K' Q := by
 refine ⟨fun _ _ => trivial, ?_⟩
 rw [Oper.semAt_plain _ _ _ hd]
 unfold Oper.wp at h
 generalize (execOp a.eval o).run P w = r at *
 cases r with
 | ok x w' =>
   cases x <;> simp only [Oper.upon, Oper.uponIn] at h ⊢
   case value v => exact hK _ _ h
   case skip => exact hK _ _ h
   case «defer» d => exact hK _ _ h
   case enter f args =>
    have h2 : CallsIn Fence.wide (n - 1) P f args w' _ := callsIn_wide.2 h
    refine ⟨fun h => (by cases h), CallsIn.mono (F := Fence.wide) h2 (fun e w'' he => by cases e <;> first | exact hK _ _ he | exact he)⟩
   case row row args =>
    refine ⟨fun h => (by cases h), fun c cs hroom => ?_⟩
    obtain ⟨v, w'', r, s⟩ := h c cs
    exact ⟨v, w'', hK _ _ r, stepsIn_wide.2 s⟩
 | halt x w' => cases x <;> simp only [Oper.upon, Oper.uponIn] at h ⊢ <;> exact h
theorem wpOps_wr {l n : Nat} (hd : ∀ (i : Nat) (o : Oper), ops[i]? = some o → ∀ c, o.op ≠ .defer c) (hq : ¬ LetsOut Q) :
 ∀ (is : List Nat) (a : Act) (w : World), wpOps P ops Q is a w → wpOpsIn (Fence.wide.inRound l) n P ops Q is a w
 | [], a, w, h => h
 | i :: rest, a, w, h => by
   unfold wpOpsIn
   unfold wpOps at h
   cases ho : ops[i]? with
   | none => simp only [ho] at h ⊢; exact wpOps_wr hd hq rest a w h
   | some o =>
     simp only [ho] at h ⊢
     split
     ·rename_i hw
      rw [if_pos hw] at h
      rcases h with h | ⟨_, h⟩
      ·exact oper_wr (hd i o ho) (fun a w => wpOps_wr hd hq rest a w) hq h
      ·exact (hq h).elim
     ·rename_i hw
      rw [if_neg hw] at h
      exact ⟨fun _ _ => trivial, wpOps_wr hd hq rest _ w h⟩
theorem wpIn_region_held_wr {l n id : Nat} {S : World → Prop} {a : Act} {w : World} (hm : P.follows .mixedOrders = true)
 (hd : ops.all (fun o => match o.op with | .defer _ => false | _ => true) = true) (hq : ¬ LetsOut Q) (hS : S w.drew)
 (h : S w.drew → wpAnyH P .any ops Q S ops.size (Array.replicate ops.size false) a w.drew) : (Code.region id ops true).wpIn (Fence.wide.inRound l) n P Q a w :=
 wpIn_region_draw fun t => by
  simp only [Region.schedule, hm, Bool.true_or, if_true]
  exact wpOps_wr (noDefer_spec hd) hq _ _ _ (wpAny_sound ops.size t _ a _ (wpAny_of_held _ _ _ _ (h hS)))
end
end Go.Proofs.YtkkbngcgphlikaaGreatDoor
end
section
namespace Go.Proofs.YtkkbngcgphlikaaGreatDoor
def swL (d : List Nat) (i j : Nat) : List Nat := (d.set i (d.getD j 0)).set j (d.getD i 0)
theorem getD_set_ {d : List Nat} {i k x : Nat} (hi : i < d.length) : (d.set i x).getD k 0 = if k = i then x else d.getD k 0 := by
 rw [List.getD_eq_getElem?_getD, List.getD_eq_getElem?_getD, List.getElem?_set]
 by_cases h : i = k
 ·subst h; rw [if_pos rfl, if_pos rfl, if_pos hi]; rfl
 rw [if_neg h, if_neg (fun e => h e.symm)]
theorem swL_len (d : List Nat) (i j : Nat) : (swL d i j).length = d.length := by unfold swL; rw [List.length_set, List.length_set]
theorem swL_at {d : List Nat} {i j : Nat} (hi : i < d.length) (hj : j < d.length) (k : Nat) : (swL d i j).getD k 0 = if k = j then d.getD i 0 else if k = i then d.getD j 0 else d.getD k 0 := by
 unfold swL
 rw [getD_set_ (by rw [List.length_set]; exact hj), getD_set_ hi]
theorem count_set {d : List Nat} {i x : Nat} (hi : i < d.length) (z : Nat) : (d.set i x).count z + (if d.getD i 0 = z then 1 else 0) = d.count z + (if x = z then 1 else 0) := by
 induction d generalizing i with
 | nil => simp at hi
 | cons y d ih =>
   cases i with
   | zero =>
     rw [List.set_cons_zero, List.count_cons, List.count_cons, List.getD_cons_zero]
     simp only [beq_iff_eq]
     by_cases h1 : x = z <;> by_cases h2 : y = z <;> simp [h1, h2]
   | succ i =>
     rw [List.set_cons_succ, List.count_cons, List.count_cons, List.getD_cons_succ]
     have := ih (by simpa using hi)
     omega
theorem swL_perm {d : List Nat} {i j : Nat} (hi : i < d.length) (hj : j < d.length) : (swL d i j).Perm d := by
 rw [List.perm_iff_count]
 intro z
 unfold swL
 have h1 := count_set (d := d) (i := i) (x := d.getD j 0) hi z
 have h2 := count_set (d := d.set i (d.getD j 0)) (i := j) (x := d.getD i 0) (by rw [List.length_set]; exact hj) z
 rw [getD_set_ hi] at h2
 by_cases e : j = i
 ·subst e; rw [if_pos rfl] at h2; omega
 rw [if_neg e] at h2; omega
structure Mv (lo hi : Nat) (d e : List Nat) : Prop where
 len : e.length = d.length
 perm : e.Perm d
 out : ∀ i, ¬ (lo ≤ i ∧ i < hi) → e.getD i 0 = d.getD i 0
 inn : ∀ i, lo ≤ i → i < hi → ∃ j, lo ≤ j ∧ j < hi ∧ e.getD i 0 = d.getD j 0
theorem Mv.refl (lo hi : Nat) (d : List Nat) : Mv lo hi d d := ⟨rfl, List.Perm.refl _, fun _ _ => rfl, fun i h1 h2 => ⟨i, h1, h2, rfl⟩⟩
theorem Mv.trans {lo hi : Nat} {d e f : List Nat} (h : Mv lo hi d e) (g : Mv lo hi e f) : Mv lo hi d f :=
 ⟨g.len.trans h.len, g.perm.trans h.perm, fun i hi => (g.out i hi).trans (h.out i hi), fun i h1 h2 => by
   obtain ⟨j, j1, j2, e1⟩ := g.inn i h1 h2
   obtain ⟨k, k1, k2, e2⟩ := h.inn j j1 j2
   exact ⟨k, k1, k2, e1.trans e2⟩⟩
theorem Mv.wide {lo hi lo2 hi2 : Nat} {d e : List Nat} (h : Mv lo hi d e) (h1 : lo2 ≤ lo) (h2 : hi ≤ hi2) : Mv lo2 hi2 d e :=
 ⟨h.len, h.perm, fun i hi => h.out i (by omega), fun i j1 j2 => by
   by_cases q : lo ≤ i ∧ i < hi
   ·obtain ⟨j, a, b, c⟩ := h.inn i q.1 q.2
    exact ⟨j, by omega, by omega, c⟩
   ·exact ⟨i, j1, j2, h.out i q⟩⟩
theorem Mv.swap {lo hi i j : Nat} {d : List Nat} (h1 : lo ≤ i) (h2 : i < hi) (h3 : lo ≤ j) (h4 : j < hi) (hl : hi ≤ d.length) : Mv lo hi d (swL d i j) := by
 refine ⟨swL_len _ _ _, swL_perm (by omega) (by omega), fun k hk => ?_, fun k k1 k2 => ?_⟩
 ·rw [swL_at (by omega) (by omega), if_neg (by omega), if_neg (by omega)]
 rw [swL_at (by omega) (by omega)]
 by_cases e1 : k = j
 ·rw [if_pos e1]; exact ⟨i, h1, h2, rfl⟩
 rw [if_neg e1]
 by_cases e2 : k = i
 ·rw [if_pos e2]; exact ⟨j, h3, h4, rfl⟩
 rw [if_neg e2]; exact ⟨k, k1, k2, rfl⟩
def Srt (g : Nat → Int) (d : List Nat) (lo hi : Nat) : Prop := ∀ i j, lo ≤ i → i < j → j < hi → g (d.getD i 0) < g (d.getD j 0)
def Lss (g : Nat → Int) (d : List Nat) (lo hi lo2 hi2 : Nat) : Prop := ∀ i j, lo ≤ i → i < hi → lo2 ≤ j → j < hi2 → g (d.getD i 0) < g (d.getD j 0)
theorem Srt.join {g : Nat → Int} {d : List Nat} {lo mid hi : Nat} (h1 : Srt g d lo mid) (h2 : Srt g d mid hi) (h : Lss g d lo mid mid hi) : Srt g d lo hi := by
 intro i j a b c
 by_cases q : j < mid
 ·exact h1 i j a b q
 by_cases q2 : i < mid
 ·exact h i j a q2 (by omega) c
 exact h2 i j (by omega) b c
theorem Srt.mono {g : Nat → Int} {d : List Nat} {lo hi lo2 hi2 : Nat} (h : Srt g d lo hi) (h1 : lo ≤ lo2) (h2 : hi2 ≤ hi) : Srt g d lo2 hi2 := fun i j a b c => h i j (by omega) b (by omega)
theorem Srt.same {g : Nat → Int} {d e : List Nat} {lo hi : Nat} (h : Srt g d lo hi) (hs : ∀ i, lo ≤ i → i < hi → e.getD i 0 = d.getD i 0) : Srt g e lo hi := fun i j a b c => by
 rw [hs i a (by omega), hs j (by omega) c]; exact h i j a b c
theorem Srt.short {g : Nat → Int} {d : List Nat} {lo hi : Nat} (h : hi ≤ lo + 1) : Srt g d lo hi := fun i j a b c => by omega
theorem Lss.mv1 {g : Nat → Int} {d e : List Nat} {lo mid hi : Nat} (h : Lss g d lo mid mid hi) (m : Mv lo mid d e) : Lss g e lo mid mid hi := fun i j a b c k => by
 obtain ⟨i', q1, q2, e1⟩ := m.inn i a b
 rw [e1, m.out j (by omega)]
 exact h i' j q1 q2 c k
theorem Lss.mv2 {g : Nat → Int} {d e : List Nat} {lo mid hi : Nat} (h : Lss g d lo mid mid hi) (m : Mv mid hi d e) : Lss g e lo mid mid hi := fun i j a b c k => by
 obtain ⟨j', q1, q2, e1⟩ := m.inn j c k
 rw [e1, m.out i (by omega)]
 exact h i j' a b q1 q2
def swF (d : List Nat) (x y n : Nat) (k : Nat) : Nat := if x ≤ k ∧ k < x + n then d.getD (k - x + y) 0 else if y ≤ k ∧ k < y + n then d.getD (k - y + x) 0 else d.getD k 0
def SwR (d e : List Nat) (x y n : Nat) : Prop := e.length = d.length ∧ ∀ k, e.getD k 0 = swF d x y n k
theorem SwR.zero (d : List Nat) (x y : Nat) : SwR d d x y 0 := ⟨rfl, fun k => by unfold swF; rw [if_neg (by omega), if_neg (by omega)]⟩
theorem SwR.step {d e : List Nat} {x y n : Nat} (h : SwR d e x y n) (hx : x + n < y) (hy : y + n < d.length) : SwR d (swL e (x + n) (y + n)) x y (n + 1) := by
 obtain ⟨h1, h2⟩ := h
 refine ⟨by rw [swL_len, h1], fun k => ?_⟩
 rw [swL_at (by omega) (by omega), h2, h2, h2]
 unfold swF
 by_cases e1 : k = y + n
 ·subst e1
  rw [if_pos rfl, if_neg (by omega), if_neg (by omega), if_neg (by omega), if_pos (by omega)]
  congr 1; omega
 rw [if_neg e1]
 by_cases e2 : k = x + n
 ·subst e2
  rw [if_pos rfl, if_neg (by omega), if_neg (by omega), if_pos (by omega)]
  congr 1; omega
 rw [if_neg e2]
 by_cases q1 : x ≤ k ∧ k < x + n
 ·rw [if_pos q1, if_pos (by omega)]
 by_cases q2 : y ≤ k ∧ k < y + n
 ·rw [if_neg q1, if_pos q2, if_neg (by omega), if_pos (by omega)]
 rw [if_neg q1, if_neg q2, if_neg (by omega), if_neg (by omega)]
def rotF (d : List Nat) (lo m hi : Nat) (k : Nat) : Nat := if lo ≤ k ∧ k < hi then (if k < lo + (hi - m) then d.getD (k - lo + m) 0 else d.getD (k - (hi - m)) 0) else d.getD k 0
theorem rot_left {d e : List Nat} {lo m hi : Nat} (h : SwR d e lo m (hi - m)) (h1 : hi - m < m - lo) (h2 : m ≤ hi) (k : Nat) : rotF e (lo + (hi - m)) m hi k = rotF d lo m hi k := by
 have q := h.2
 unfold rotF
 by_cases k1 : lo ≤ k ∧ k < hi
 rotate_left
 ·rw [if_neg (by omega), if_neg k1, q]
  unfold swF
  rw [if_neg (by omega), if_neg (by omega)]
 by_cases k2 : k < lo + (hi - m)
 ·rw [if_neg (by omega), if_pos k1, if_pos k2, q]
  unfold swF
  rw [if_pos (by omega)]
 rw [if_pos (by omega), if_pos k1, if_neg k2]
 by_cases k3 : k < lo + (hi - m) + (hi - m)
 ·rw [if_pos k3, q]
  unfold swF
  rw [if_neg (by omega), if_pos (by omega)]
  congr 1; omega
 rw [if_neg k3, q]
 unfold swF
 rw [if_neg (by omega), if_neg (by omega)]
theorem rot_right {d e : List Nat} {lo m hi : Nat} (h : SwR d e lo (hi - (m - lo)) (m - lo)) (h1 : m - lo < hi - m) (h2 : lo ≤ m) (k : Nat) : rotF e lo m (hi - (m - lo)) k = rotF d lo m hi k := by
 have q := h.2
 unfold rotF
 by_cases k1 : lo ≤ k ∧ k < hi
 rotate_left
 ·rw [if_neg (by omega), if_neg k1, q]
  unfold swF
  rw [if_neg (by omega), if_neg (by omega)]
 by_cases k2 : k < hi - (m - lo)
 ·rw [if_pos (by omega), if_pos k1]
  by_cases k3 : k < lo + (hi - (m - lo) - m)
  ·rw [if_pos k3, if_pos (by omega), q]
   unfold swF
   rw [if_neg (by omega), if_neg (by omega)]
  rw [if_neg k3, if_pos (by omega), q]
  unfold swF
  rw [if_pos (by omega)]
  congr 1; omega
 rw [if_neg (by omega), if_pos k1, q, if_neg (by omega)]
 unfold swF
 rw [if_neg (by omega), if_pos (by omega)]
 congr 1; omega
theorem rot_even {d e : List Nat} {lo m hi : Nat} (h : SwR d e lo m (m - lo)) (h1 : m - lo = hi - m) (h2 : lo ≤ m) (h3 : m ≤ hi) (k : Nat) : e.getD k 0 = rotF d lo m hi k := by
 rw [h.2]
 unfold swF rotF
 by_cases k1 : lo ≤ k ∧ k < hi
 ·rw [if_pos k1]
  by_cases k2 : k < lo + (hi - m)
  ·rw [if_pos (by omega), if_pos k2]
  rw [if_neg (by omega), if_pos (by omega), if_neg k2]
  congr 1; omega
 rw [if_neg (by omega), if_neg (by omega), if_neg k1]
def nI (x : Nat) : Int := x
structure Key (N : Nat) (f g : Nat → Int) : Prop where
 lt : ∀ x y, y < x → x < N → f x < f y → g x < g y
 ge : ∀ x y, y < x → x < N → ¬ f x < f y → g y < g x
theorem key_mk (N : Nat) (f : Nat → Int) : Key N f (fun x => f x * N + x) := by
 refine ⟨fun x y h hx hf => ?_, fun x y h hx hf => ?_⟩
 ·have h1 : f x + 1 ≤ f y := by omega
  have h2 : (f x + 1) * (N : Int) ≤ f y * N := Int.mul_le_mul_of_nonneg_right h1 (by omega)
  rw [Int.add_mul] at h2
  show f x * N + x < f y * N + y
  omega
 have h1 : f y ≤ f x := by omega
 have h2 : f y * (N : Int) ≤ f x * N := Int.mul_le_mul_of_nonneg_right h1 (by omega)
 show f y * N + y < f x * N + x
 omega
structure Cut (g : Nat → Int) (d : List Nat) (a m b s0 r0 start e : Nat) : Prop where
 am : a < m
 mb : m < b
 bd : a ≤ s0 ∧ s0 ≤ start ∧ start ≤ r0 ∧ r0 ≤ m ∧ r0 ≤ (a + b) / 2 ∧ (a + b) / 2 + m ≤ s0 + b
 rr : r0 = m ∨ r0 = (a + b) / 2
 ss : s0 = a ∨ s0 + b = (a + b) / 2 + m
 ee : e + start = (a + b) / 2 + m
 lo : ∀ c, s0 ≤ c → c < start → g (d.getD c 0) < g (d.getD ((a + b) / 2 + m - 1 - c) 0)
 hi : ∀ c, start ≤ c → c < r0 → g (d.getD ((a + b) / 2 + m - 1 - c) 0) < g (d.getD c 0)
theorem rotF_a {d : List Nat} {lo m hi k : Nat} (h : ¬ (lo ≤ k ∧ k < hi)) : rotF d lo m hi k = d.getD k 0 := by unfold rotF; rw [if_neg h]
theorem rotF_b {d : List Nat} {lo m hi k : Nat} (h : lo ≤ k) (h2 : k < lo + (hi - m)) (h3 : lo ≤ m) (h4 : m ≤ hi) : rotF d lo m hi k = d.getD (k - lo + m) 0 := by unfold rotF; rw [if_pos (by omega), if_pos h2]
theorem rotF_c {d : List Nat} {lo m hi k : Nat} (h : lo + (hi - m) ≤ k) (h2 : k < hi) (h3 : lo ≤ m) (h4 : m ≤ hi) : rotF d lo m hi k = d.getD (k - (hi - m)) 0 := by unfold rotF; rw [if_pos (by omega), if_neg (by omega)]
theorem Cut.left {g k : Nat → Int} {d e : List Nat} {a m b s0 r0 start en : Nat} (c : Cut g d a m b s0 r0 start en) (h2 : Lss k d a m m b) (hr : ∀ i, e.getD i 0 = rotF d start m en i) : Lss k e a start start ((a + b) / 2) := by
 have hs0 := c.bd; have he := c.ee; have h3 := c.am; have h4 := c.mb
 intro i j i1 i2 j1 j2
 rw [hr, hr, rotF_a (by omega), rotF_b (by omega) (by omega) (by omega) (by omega)]
 exact h2 _ _ (by omega) (by omega) (by omega) (by omega)
theorem Cut.right {g k : Nat → Int} {d e : List Nat} {a m b s0 r0 start en : Nat} (c : Cut g d a m b s0 r0 start en) (h2 : Lss k d a m m b) (hr : ∀ i, e.getD i 0 = rotF d start m en i) : Lss k e ((a + b) / 2) en en b := by
 have hs0 := c.bd; have he := c.ee; have h3 := c.am; have h4 := c.mb
 intro i j i1 i2 j1 j2
 rw [hr, hr, rotF_c (by omega) (by omega) (by omega) (by omega), rotF_a (by omega)]
 exact h2 _ _ (by omega) (by omega) (by omega) (by omega)
theorem Cut.srt {g : Nat → Int} {d e : List Nat} {a m b s0 r0 start en : Nat} (c : Cut g d a m b s0 r0 start en) (l : Srt g d a m) (r : Srt g d m b) (hr : ∀ i, e.getD i 0 = rotF d start m en i) :
 Srt g e a start ∧ Srt g e start ((a + b) / 2) ∧ Srt g e ((a + b) / 2) en ∧ Srt g e en b := by
 have hs0 := c.bd; have he := c.ee; have h3 := c.am; have h4 := c.mb
 refine ⟨fun i j i1 i2 i3 => ?_, fun i j i1 i2 i3 => ?_, fun i j i1 i2 i3 => ?_, fun i j i1 i2 i3 => ?_⟩
 ·rw [hr, hr, rotF_a (by omega), rotF_a (by omega)]; exact l _ _ (by omega) (by omega) (by omega)
 ·rw [hr, hr, rotF_b (by omega) (by omega) (by omega) (by omega), rotF_b (by omega) (by omega) (by omega) (by omega)]; exact r _ _ (by omega) (by omega) (by omega)
 ·rw [hr, hr, rotF_c (by omega) (by omega) (by omega) (by omega), rotF_c (by omega) (by omega) (by omega) (by omega)]; exact l _ _ (by omega) (by omega) (by omega)
 rw [hr, hr, rotF_a (by omega), rotF_a (by omega)]; exact r _ _ (by omega) (by omega) (by omega)
theorem le_of_srt {g : Nat → Int} {d : List Nat} {lo hi i j : Nat} (h : Srt g d lo hi) (h1 : lo ≤ i) (h2 : i ≤ j) (h3 : j < hi) : g (d.getD i 0) ≤ g (d.getD j 0) := by
 by_cases e : i = j
 ·subst e; exact Int.le_refl _
 exact Int.le_of_lt (h i j h1 (by omega) h3)
theorem Cut.mid {g : Nat → Int} {d e : List Nat} {a m b s0 r0 start en : Nat} (c : Cut g d a m b s0 r0 start en) (l : Srt g d a m) (r : Srt g d m b) (hr : ∀ i, e.getD i 0 = rotF d start m en i) :
 Lss g e a ((a + b) / 2) ((a + b) / 2) b := by
 have hs0 := c.bd; have he := c.ee; have h3 := c.am; have h4 := c.mb; have hr0 := c.rr; have hs1 := c.ss
 intro i j i1 i2 j1 j2
 rw [hr, hr]
 by_cases q1 : i < start
 ·rw [rotF_a (by omega)]
  by_cases q2 : j < en
  ·rw [rotF_c (by omega) (by omega) (by omega) (by omega)]
   exact l _ _ (by omega) (by omega) (by omega)
  rw [rotF_a (by omega)]
  -- a beginning of the left one against an end of the right one
  have hgt : s0 < start ∨ s0 = start := by omega
  rcases hgt with hgt | hgt
  ·have k1 := c.lo (start - 1) (by omega) (by omega)
   have e1 : (a + b) / 2 + m - 1 - (start - 1) = en := by omega
   rw [e1] at k1
   have k2 := le_of_srt l (i := i) (j := start - 1) (by omega) (by omega) (by omega)
   have k3 := le_of_srt r (i := en) (j := j) (by omega) (by omega) (by omega)
   omega
  rcases hs1 with hs1 | hs1
  ·omega
  omega
 rw [rotF_b (by omega) (by omega) (by omega) (by omega)]
 by_cases q2 : j < en
 ·rw [rotF_c (by omega) (by omega) (by omega) (by omega)]
  have hgt : start < r0 ∨ start = r0 := by omega
  rcases hgt with hgt | hgt
  ·have k1 := c.hi start (by omega) hgt
   have k2 := le_of_srt l (i := start) (j := j - (en - m)) (by omega) (by omega) (by omega)
   have k3 := le_of_srt r (i := i - start + m) (j := (a + b) / 2 + m - 1 - start) (by omega) (by omega) (by omega)
   omega
  omega
 rw [rotF_a (by omega)]
 exact r _ _ (by omega) (by omega) (by omega)
theorem find_lo {g : Nat → Int} {d : List Nat} {a m b s0 c p : Nat} (l : Srt g d a m) (r : Srt g d m b) (h : g (d.getD c 0) < g (d.getD (p - c) 0)) (h1 : a ≤ s0) (h2 : c < m) (h3 : p < s0 + b) (h4 : m + c ≤ p) :
 ∀ k, s0 ≤ k → k < c + 1 → g (d.getD k 0) < g (d.getD (p - k) 0) := fun k k1 k2 => by
 have q1 := le_of_srt l (i := k) (j := c) (by omega) (by omega) (by omega)
 have q2 := le_of_srt r (i := p - c) (j := p - k) (by omega) (by omega) (by omega)
 omega
theorem find_hi {g : Nat → Int} {d : List Nat} {a m b s0 c p r0 : Nat} (l : Srt g d a m) (r : Srt g d m b) (h : g (d.getD (p - c) 0) < g (d.getD c 0)) (h1 : a ≤ s0) (h2 : s0 ≤ c) (h3 : p < s0 + b) (h4 : r0 ≤ m) (h5 : m + r0 ≤ p + 1) :
 ∀ k, c ≤ k → k < r0 → g (d.getD (p - k) 0) < g (d.getD k 0) := fun k k1 k2 => by
 have q1 := le_of_srt l (i := c) (j := k) (by omega) (by omega) (by omega)
 have q2 := le_of_srt r (i := p - k) (j := p - c) (by omega) (by omega) (by omega)
 omega
theorem Srt.mv {g : Nat → Int} {d e : List Nat} {lo hi lo2 hi2 : Nat} (h : Srt g d lo2 hi2) (m : Mv lo hi d e) (ho : hi ≤ lo2 ∨ hi2 ≤ lo) : Srt g e lo2 hi2 := h.same fun i i1 i2 => m.out i (by omega)
theorem Lss.mvA {g : Nat → Int} {d e : List Nat} {lo hi lo1 hi1 lo2 hi2 : Nat} (h : Lss g d lo1 hi1 lo2 hi2) (m : Mv lo hi d e) (h1 : (hi ≤ lo1 ∨ hi1 ≤ lo) ∨ (lo1 ≤ lo ∧ hi ≤ hi1)) (h2 : (hi ≤ lo2 ∨ hi2 ≤ lo) ∨ (lo2 ≤ lo ∧ hi ≤ hi2)) : Lss g e lo1 hi1 lo2 hi2 := fun i j i1 i2 j1 j2 => by
 have q1 : ∃ i', lo1 ≤ i' ∧ i' < hi1 ∧ e.getD i 0 = d.getD i' 0 := by
  by_cases q : lo ≤ i ∧ i < hi
  ·obtain ⟨i', a, b, c⟩ := m.inn i q.1 q.2
   exact ⟨i', by omega, by omega, c⟩
  ·exact ⟨i, i1, i2, m.out i q⟩
 have q2 : ∃ j', lo2 ≤ j' ∧ j' < hi2 ∧ e.getD j 0 = d.getD j' 0 := by
  by_cases q : lo ≤ j ∧ j < hi
  ·obtain ⟨j', a, b, c⟩ := m.inn j q.1 q.2
   exact ⟨j', by omega, by omega, c⟩
  ·exact ⟨j, j1, j2, m.out j q⟩
 obtain ⟨i', a1, a2, a3⟩ := q1
 obtain ⟨j', b1, b2, b3⟩ := q2
 rw [a3, b3]
 exact h i' j' a1 a2 b1 b2
def insF (d : List Nat) (i j k : Nat) : Nat := if k = j then d.getD i 0 else if j < k ∧ k ≤ i then d.getD (k - 1) 0 else d.getD k 0
structure Ins (d e : List Nat) (a i j : Nat) : Prop where
 at_ : ∀ k, e.getD k 0 = insF d i j k
 mv : Mv a (i + 1) d e
theorem Ins.start (d : List Nat) (a i : Nat) : Ins d d a i i := ⟨fun k => by
 unfold insF
 by_cases h : k = i
 ·rw [if_pos h, h]
 ·rw [if_neg h, if_neg (by omega)], Mv.refl _ _ _⟩
theorem Ins.step {d e : List Nat} {a i j : Nat} (h : Ins d e a i (j + 1)) (ha : a ≤ j) (hj : j + 1 ≤ i) (hi : i < d.length) : Ins d (swL e (j + 1) j) a i j := by
 have hl := h.mv.len
 refine ⟨fun k => ?_, h.mv.trans (Mv.swap (by omega) (by omega) (by omega) (by omega) (by omega))⟩
 rw [swL_at (by omega) (by omega), h.at_, h.at_, h.at_]
 unfold insF
 by_cases e1 : k = j
 ·subst e1
  rw [if_pos rfl, if_pos rfl, if_pos rfl]
 rw [if_neg e1, if_neg e1]
 by_cases e2 : k = j + 1
 ·subst e2
  rw [if_pos rfl, if_neg (by omega), if_neg (by omega), if_pos (by omega)]
  congr 1
 rw [if_neg e2, if_neg e2]
 by_cases q : j + 1 < k ∧ k ≤ i
 ·rw [if_pos q, if_pos (by omega)]
 rw [if_neg q, if_neg (by omega)]
theorem Ins.done {g : Nat → Int} {d e : List Nat} {a i j : Nat} (h : Ins d e a i j) (hs : Srt g d a i) (hj : a ≤ j) (hji : j ≤ i) (h1 : j = a ∨ g (d.getD (j - 1) 0) < g (d.getD i 0)) (h2 : ∀ q, j ≤ q → q < i → g (d.getD i 0) < g (d.getD q 0)) : Srt g e a (i + 1) := by
 intro p q p1 p2 p3
 rw [h.at_, h.at_]
 unfold insF
 by_cases e1 : p = j
 ·subst e1
  rw [if_pos rfl, if_neg (by omega), if_pos (by omega)]
  exact h2 _ (by omega) (by omega)
 rw [if_neg e1]
 by_cases e2 : q = j
 ·subst e2
  rw [if_pos rfl, if_neg (by omega)]
  rcases h1 with h1 | h1
  ·omega
  have := le_of_srt hs (i := p) (j := q - 1) p1 (by omega) (by omega)
  omega
 rw [if_neg e2]
 by_cases k1 : j < p ∧ p ≤ i
 ·rw [if_pos k1, if_pos (by omega)]
  exact hs _ _ (by omega) (by omega) (by omega)
 rw [if_neg k1]
 by_cases k2 : j < q ∧ q ≤ i
 ·rw [if_pos k2]
  by_cases k3 : p = q - 1
  ·omega
  exact hs _ _ (by omega) (by omega) (by omega)
 rw [if_neg k2]
 exact hs _ _ (by omega) (by omega) (by omega)
theorem Ins.below {g : Nat → Int} {d : List Nat} {i j : Nat} (h : g (d.getD i 0) < g (d.getD j 0)) (h2 : ∀ q, j + 1 ≤ q → q < i → g (d.getD i 0) < g (d.getD q 0)) : ∀ q, j ≤ q → q < i → g (d.getD i 0) < g (d.getD q 0) := fun q q1 q2 => by
 by_cases e : q = j
 ·subst e; exact h
 ·exact h2 q (by omega) q2
theorem srt_pair {g : Nat → Int} {d : List Nat} (h : Srt g d 0 d.length) : d.Pairwise (fun x y => g x < g y) := by
 rw [List.pairwise_iff_getElem]
 intro i j hi hj hij
 have := h i j (by omega) hij hj
 rwa [List.getD_eq_getElem?_getD, List.getD_eq_getElem?_getD, List.getElem?_eq_getElem hi, List.getElem?_eq_getElem hj] at this
theorem asc_lss {d : List Nat} {lo mid hi : Nat} (h : Srt nI d lo hi) : Lss nI d lo mid mid hi := fun i j a b c k => h i j a (by omega) k
theorem nI_lt {d : List Nat} {i j : Nat} (h : nI (d.getD i 0) < nI (d.getD j 0)) : d.getD i 0 < d.getD j 0 := by unfold nI at h; omega
end Go.Proofs.YtkkbngcgphlikaaGreatDoor
end
section
namespace Go.Proofs.YtkkbngcgphlikaaGreatDoor
def kN (x : Nat) : Nat := x % 8
def cN (x : Nat) : Nat := x / 8 % 4
def lnN (x : Nat) : Nat := x / 32 % 64
def mN (x : Nat) : Nat := x / 2048 % 8192
def bN (x : Nat) : Nat := x / 16777216 % 256
def RightN (x : Nat) : Prop := x < 4294967296 ∧ (((kN x = 0 ∨ kN x = 3) ∧ cN x = 0 ∧ lnN x = 0 ∧ mN x = 0 ∧ bN x = 0) ∨
 (kN x = 1 ∧ lnN x = 0 ∧ mN x = 0 ∧ ((cN x = 0 ∧ bN x < 256) ∨ (cN x = 1 ∧ bN x < 16) ∨ (cN x = 2 ∧ bN x < 4))) ∨
 (kN x = 2 ∧ cN x = 0 ∧ lnN x = 0 ∧ bN x = 0 ∧ 1 ≤ mN x ∧ mN x ≤ 8191) ∨ (kN x = 4 ∧ cN x = 0 ∧ bN x = 0 ∧ lnN x < 64 ∧ mN x ≤ 7))
instance (x : Nat) : Decidable (RightN x) := by unfold RightN; infer_instance
def okN (x : Nat) : Bool := decide (RightN x)
theorem okN_t {x : Nat} (h : okN x = true) : RightN x := of_decide_eq_true h
theorem parts_bd (x : Nat) : kN x < 8 ∧ cN x < 4 ∧ lnN x < 64 ∧ mN x < 8192 ∧ bN x < 256 := by
 unfold kN cN lnN mN bN; omega
def stepT (x n : Nat) : Option Nat := if decide (kN x = 3) = decide (0 < n) then some (if kN x = 3 then n - 1 else if kN x = 2 then mN x - 1 else n) else none
def runT (t : List Nat) : Nat → Option Nat
 | 0 => some 0
 | k + 1 => (runT t k).bind (stepT (t.getD k 0))
def rightT (t : List Nat) : Bool := t.all okN && (runT t t.length == some 0)
theorem all_at {t : List Nat} (h : t.all okN = true) {k : Nat} (hk : k < t.length) : okN (t.getD k 0) = true := by
 rw [List.getD_eq_getElem?_getD, List.getElem?_eq_getElem hk]
 exact List.all_eq_true.1 h _ (List.getElem_mem hk)
theorem runT_app (t u : List Nat) : ∀ k, k ≤ t.length → runT (t ++ u) k = runT t k
 | 0, _ => rfl
 | k + 1, hk => by
   simp only [runT]
   rw [runT_app t u k (by omega)]
   congr 2
   simp only [List.getD_eq_getElem?_getD]
   rw [List.getElem?_append_left (by omega)]
theorem runT_app2 (t u : List Nat) (h : runT t t.length = some 0) : ∀ j, runT (t ++ u) (t.length + j) = runT u j
 | 0 => by rw [Nat.add_zero, runT_app t u _ (Nat.le_refl _), h]; rfl
 | j + 1 => by
   rw [← Nat.add_assoc]
   simp only [runT]
   rw [runT_app2 t u h j]
   congr 2
   simp only [List.getD_eq_getElem?_getD]
   rw [List.getElem?_append_right (by omega)]
   congr 2
   omega
theorem rightT_t {t : List Nat} (h : rightT t = true) : t.all okN = true ∧ runT t t.length = some 0 := by
 simp only [rightT, Bool.and_eq_true, beq_iff_eq] at h; exact h
theorem rightT_mk {t : List Nat} (h1 : t.all okN = true) (h2 : runT t t.length = some 0) : rightT t = true := by
 simp only [rightT, Bool.and_eq_true, beq_iff_eq]; exact ⟨h1, h2⟩
theorem rightT_app {t u : List Nat} (h1 : rightT t = true) (h2 : rightT u = true) : rightT (t ++ u) = true := by
 obtain ⟨a1, b1⟩ := rightT_t h1
 obtain ⟨a2, b2⟩ := rightT_t h2
 refine rightT_mk (by rw [List.all_append, a1, a2]; rfl) ?_
 rw [List.length_append, runT_app2 t u b1, b2]
theorem rightT_one {x : Nat} (h : okN x = true) (h2 : ¬ kN x = 2) (h3 : ¬ kN x = 3) : rightT [x] = true := by
 refine rightT_mk (by simp [h]) ?_
 simp [runT, stepT, h2, h3]
theorem runT_huge (x n : Nat) (hk : kN x = 2) (hm : mN x = n + 1) : ∀ j, j ≤ n → runT (x :: List.replicate n 3) (j + 1) = some (n - j)
 | 0, _ => by simp [runT, stepT, hk, hm]
 | j + 1, hj => by
   rw [runT, runT_huge x n hk hm j (by omega)]
   have e : (x :: List.replicate n 3).getD (j + 1) 0 = 3 := by
    simp only [List.getD_eq_getElem?_getD, List.getElem?_cons_succ]
    rw [List.getElem?_replicate, if_pos (by omega)]
    rfl
   rw [e]
   have : kN 3 = 3 := rfl
   simp only [Option.bind_some, stepT, this]
   have h0 : 0 < n - j := by omega
   simp [h0]
   omega
theorem rightT_huge {x n : Nat} (h : okN x = true) (hk : kN x = 2) (hm : mN x = n + 1) : rightT (x :: List.replicate n 3) = true := by
 refine rightT_mk ?_ ?_
 ·rw [List.all_eq_true]
  intro y hy
  rcases List.mem_cons.1 hy with rfl | hy
  ·exact h
  have := List.eq_of_mem_replicate hy
  subst this
  decide
 have := runT_huge x n hk hm n (Nat.le_refl _)
 rw [List.length_cons, List.length_replicate, this, Nat.sub_self]
abbrev Bl := Nat × Nat × Nat
def mnN (c : Nat) : Nat := if c = 0 then 8 else if c = 1 then 4 else if c = 2 then 2 else 0
def blN (c : Nat) : Nat := if c = 0 then 4 else if c = 1 then 8 else if c = 2 then 16 else 0
def liveL (b m : Nat) : List Nat := (List.range m).filter b.testBit
def blksAt (i x : Nat) : List Bl := if kN x = 1 then (liveL (bN x) (mnN (cN x))).map (fun j => (i, j, blN (cN x))) else if kN x = 2 then [(i, 0, mN x * 32)] else []
def blksFrom : Nat → List Nat → List Bl
 | _, [] => []
 | o, x :: t => blksAt o x ++ blksFrom (o + 1) t
def blksT (t : List Nat) : List Bl := if t.all okN then blksFrom 0 t else []
theorem blksFrom_app : ∀ (o : Nat) (t u : List Nat), blksFrom o (t ++ u) = blksFrom o t ++ blksFrom (o + t.length) u
 | o, [], u => by simp [blksFrom]
 | o, x :: t, u => by
   simp only [List.cons_append, blksFrom, blksFrom_app (o + 1) t u, List.append_assoc, List.length_cons]
   rw [show o + 1 + t.length = o + (t.length + 1) by omega]
theorem blksFrom_take (t : List Nat) (k : Nat) (hk : k < t.length) : blksFrom 0 (t.take (k + 1)) = blksFrom 0 (t.take k) ++ blksAt k (t.getD k 0) := by
 rw [List.take_succ_eq_append_getElem hk, blksFrom_app]
 congr 1
 simp only [blksFrom, List.append_nil, Nat.zero_add, List.length_take]
 rw [Nat.min_eq_left (by omega), List.getD_eq_getElem?_getD, List.getElem?_eq_getElem hk]
 rfl
theorem liveL_len (b m : Nat) : (liveL b m).length ≤ m := by
 unfold liveL
 refine Nat.le_trans (List.length_filter_le _ _) ?_
 rw [List.length_range]; exact Nat.le_refl _
theorem mnN_le (c : Nat) : mnN c ≤ 8 := by unfold mnN; split <;> (try split) <;> (try split) <;> omega
theorem blksAt_len (i x : Nat) : (blksAt i x).length ≤ 8 := by
 unfold blksAt
 split
 ·rw [List.length_map]; exact Nat.le_trans (liveL_len _ _) (mnN_le _)
 split <;> simp
theorem blksFrom_len : ∀ (o : Nat) (t : List Nat), (blksFrom o t).length ≤ 8 * t.length
 | _, [] => by simp [blksFrom]
 | o, x :: t => by
   rw [blksFrom, List.length_append, List.length_cons]
   have := blksAt_len o x
   have := blksFrom_len (o + 1) t
   omega
end Go.Proofs.YtkkbngcgphlikaaGreatDoor
end
