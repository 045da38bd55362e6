/-
  Part of the proof of MendWhole.
-/
import Derived.Test.YtkdhdibjbabgfaaGreatDoorRows
import Derived.Deep.RegionHeld3
import Derived.OwnWalkIn
import Derived.StillTail
import Derived.RangeFuncBound
import Derived.RangeFuncBox
import Derived.RangeFuncCalls
import Derived.RangeFuncFrom
import Derived.RangeFuncLeaves
import Derived.RangeFuncNested
import Derived.RangeFuncWrites
import Derived.Test.YtkdhdibjbabgfaaGreatDoorVw0
set_option linter.unusedVariables false
set_option linter.unusedSimpArgs false
section
namespace Go.Proofs.YtkdhdibjbabgfaaGreatDoor
section
variable {P : Program} {ops : Array Oper} {Q : Exit → Act → World → Prop} {md : Region.Mode} {S : World → Prop}
def wpAnyS (P : Program) (md : Region.Mode) (ops : Array Oper) (Q : Exit → Act → World → Prop) (S : World → Prop) (n : Nat) : Nat → Array Bool → Act → World → Prop
 | 0, listed, a, w => Region.ready md ops listed = [] ∧ Q .normal a w
 | fuel + 1, listed, a, w =>
   (Region.ready md ops listed = [] → Q .normal a w) ∧
   ∀ i ∈ Region.ready md ops listed, wpOp P ops Q i (fun a' w' => (i < n → S w') ∧ wpAnyS P md ops Q S n fuel (listed.setIfInBounds i true) a' w') a w
theorem wpAny_of_S {n : Nat} : ∀ (fuel : Nat) (listed : Array Bool) (a : Act) (w : World), wpAnyS P md ops Q S n fuel listed a w → wpAny P md ops Q fuel listed a w
 | 0, _, _, _, h => h
 | fuel + 1, _, _, _, h => ⟨h.1, fun i hi => wpOp_mono (fun a' w' h' => wpAny_of_S fuel _ a' w' h'.2) (h.2 i hi)⟩
structure TailAt (md : Region.Mode) (ops : Array Oper) (n : Nat) : Prop where
 sink : Region.sinkB md ops n = true
 chain : Region.chainB md ops n = true
 lt : n < ops.size
theorem tailAt {n : Nat} (h : (Region.sinkB md ops n && Region.chainB md ops n && decide (n < ops.size)) = true) : TailAt md ops n := by
 simp only [Bool.and_eq_true, decide_eq_true_eq] at h
 exact ⟨h.1.1, h.1.2, h.2⟩
theorem wpAnyS_first {n i : Nat} {oi : Oper} {v : Value} (T : TailAt md ops n) (hin : i < n) (hi : ops[i]? = some oi) (hsel : ∀ (j : Nat) (o : Oper) cs b, ops[j]? = some o → o.op ≠ .select cs b)
 (hQ : ∀ c a w, Q (.panic c) (a.put oi.dst v) w → Q (.panic c) a w) :
 ∀ (fuel : Nat) (listed : Array Bool) (a : Act) (w : World), HeadInv md ops n listed →
   (∀ j oj, ops[j]? = some oj → j ≠ i → listed.getD j true = false → (∀ e ∈ oj.after, Region.binds md e = true → e.on ≠ i) → oi.apart ops oj = true) →
   i ∈ Region.ready md ops listed → YieldsIf P ops S oi v a → S w →
   wpAnyS P md ops Q S n fuel (listed.setIfInBounds i true) (a.put oi.dst v) w → wpAnyS P md ops Q S n (fuel + 1) listed a w := by
 intro fuel
 induction fuel with
 | zero =>
   intro listed a w inv _ hr hy hS H
   refine ⟨fun h => (by rw [h] at hr; cases hr), fun j hj => ?_⟩
   by_cases hji : j = i
   ·subst hji; exact hy.wpOp hi hS ⟨fun _ => hS, H⟩
   ·have := ready_mono hj hji
    rw [H.1] at this
    cases this
 | succ fuel ih =>
   intro listed a w inv hfree hr hy hS H
   refine ⟨fun h => (by rw [h] at hr; cases hr), fun j hj => ?_⟩
   by_cases hji : j = i
   ·subst hji; exact hy.wpOp hi hS ⟨fun _ => hS, H⟩
   ·have hjn : j < n := by
     rcases Nat.lt_or_ge j n with h | h
     ·exact h
     ·exact absurd hj (tail_waits T.sink T.chain T.lt inv (n - i) i rfl hin (mem_ready.1 hr).1 j h)
    have h1 := H.2 j (ready_mono hj hji)
    obtain ⟨hjun, oj, hoj, hall⟩ := mem_ready.1 hj
    have hnot : ∀ e ∈ oj.after, Region.binds md e = true → e.on ≠ i := fun e he hb heq => by
     have h1 := hall e he hb
     have h0 := (mem_ready.1 hr).1
     rw [heq] at h1
     rcases Nat.lt_or_ge i listed.size with h' | h'
     ·simp [h'] at h0 h1; rw [h0] at h1; cases h1
     ·simp [Array.getElem?_eq_none h'] at h1
    have h2 := wpOp_putIf hoj (hfree j oj hoj hji hjun hnot) (fun cs b => hsel i oi cs b hi) (fun cs b => hsel j oj cs b hoj) hQ hy h1
    have hfree' : ∀ k ok, ops[k]? = some ok → k ≠ i → (listed.setIfInBounds j true).getD k true = false →
     (∀ e ∈ ok.after, Region.binds md e = true → e.on ≠ i) → oi.apart ops ok = true := fun k ok hk hki hun hno => by
     refine hfree k ok hk hki ?_ hno
     by_cases hjk : j = k
     ·subst hjk; exact hjun
     ·rw [getD_set_ne true hjk] at hun; exact hun
    refine wpOp_mono (fun a' w' h3 => ⟨fun _ => h3.2.1 hjn, ih (listed.setIfInBounds j true) a' w' (inv.set hj hjn) hfree' (ready_mono hr (Ne.symm hji)) h3.1 (h3.2.1 hjn) ?_⟩) h2
    rw [Array.setIfInBounds_comm _ _ hji]
    exact h3.2.2
theorem wpAnyS_done {n : Nat} {listed : Array Bool} {a : Act} {w : World} (hr : Region.ready md ops listed = []) (h : Q .normal a w) :
 ∀ fuel, wpAnyS P md ops Q S n fuel listed a w
 | 0 => ⟨hr, h⟩
 | _ + 1 => ⟨fun _ => h, by rw [hr]; simp⟩
theorem wp_region_tail {n id : Nat} {a : Act} {w : World} (hm : P.follows .mixedOrders = true) (hS : S w.drew)
 (h : S w.drew → HeadInv .any ops n (Array.replicate ops.size false) → wpAnyS P .any ops Q S n ops.size (Array.replicate ops.size false) a w.drew) (hn : n < ops.size) : (Code.region id ops true).wp P Q a w :=
 wp_region_any hm (wpAny_of_S _ _ _ _ (h hS ⟨by simp, fun j oj _ hl => (by rw [getD_replicate_false] at hl; cases hl), fun t _ ht => getD_in (by simpa using ht) (getD_replicate_false _ _)⟩))
end
section
variable {P : Program} {L : List Oper} {Q : Exit → Act → World → Prop} {md : Region.Mode} {S : World → Prop} {n : Nat}
theorem takeS (i : Nat) {o : Oper} {v : Value} {fuel : Nat} {listed : Array Bool} {a : Act} {w : World} (T : TailAt md L.toArray n) (inv : HeadInv md L.toArray n listed) (hin : i < n) (hi : L[i]? = some o)
 (hs : Region.noSelect L.toArray = true) (hf : Region.free md L.toArray listed i = true) (hr : (Region.ready md L.toArray listed).contains i = true)
 (hQ : ∀ c a w, Q (.panic c) (a.put o.dst v) w → Q (.panic c) a w) (hw : Region.wanted o (yielded L.toArray a.tmps) = true) (hS : S w)
 (hy : ∀ w, S w → (execOp a.eval o).run P w = .ok (.value v) w)
 (h : HeadInv md L.toArray n (listed.setIfInBounds i true) → wpAnyS P md L.toArray Q S n fuel (listed.setIfInBounds i true) (a.put o.dst v) w) : wpAnyS P md L.toArray Q S n (fuel + 1) listed a w :=
 have hr' : i ∈ Region.ready md L.toArray listed := by simpa using hr
 wpAnyS_first T hin (by simpa using hi) (Region.noSelect_spec hs) hQ fuel listed a w inv (Region.free_spec (by simpa using hi) hf) hr' (.inl ⟨hw, hy⟩) hS (h (inv.set hr' hin))
theorem oneS (i : Nat) {o : Oper} {fuel : Nat} {listed : Array Bool} {a : Act} {w : World} (inv : HeadInv md L.toArray n listed) (hin : i < n) (hi : L[i]? = some o) (hr : Region.ready md L.toArray listed = [i])
 (h : ∀ K' : Act → World → Prop, Shut (∀ a w, S w → (S w → HeadInv md L.toArray n (listed.setIfInBounds i true) → wpAnyS P md L.toArray Q S n fuel (listed.setIfInBounds i true) a w) → K' a w) → if Region.wanted o (yielded L.toArray a.tmps) = true then Oper.wp P o a w K' Q else K' (a.put o.dst undef) w) :
 wpAnyS P md L.toArray Q S n (fuel + 1) listed a w := by
 refine ⟨fun h0 => (by rw [hr] at h0; cases h0), fun j hj => ?_⟩
 rw [hr, List.mem_singleton] at hj
 subst hj
 exact wpOp_step (by simpa using hi) (fun K' hK => h K' (fun a w hS hW => hK a w ⟨fun _ => hS, hW hS (inv.set (by rw [hr]; simp) hin)⟩))
theorem twoS (i j : Nat) {o o' : Oper} {fuel : Nat} {listed : Array Bool} {a : Act} {w : World} (inv : HeadInv md L.toArray n listed) (hin : i < n) (hjn : j < n) (hi : L[i]? = some o) (hj : L[j]? = some o') (hr : Region.ready md L.toArray listed = [i, j])
 (h : ∀ K' : Act → World → Prop, Shut (∀ a w, S w → (S w → HeadInv md L.toArray n (listed.setIfInBounds i true) → wpAnyS P md L.toArray Q S n fuel (listed.setIfInBounds i true) a w) → K' a w) → if Region.wanted o (yielded L.toArray a.tmps) = true then Oper.wp P o a w K' Q else K' (a.put o.dst undef) w)
 (h' : ∀ K' : Act → World → Prop, Shut (∀ a w, S w → (S w → HeadInv md L.toArray n (listed.setIfInBounds j true) → wpAnyS P md L.toArray Q S n fuel (listed.setIfInBounds j true) a w) → K' a w) → if Region.wanted o' (yielded L.toArray a.tmps) = true then Oper.wp P o' a w K' Q else K' (a.put o'.dst undef) w) :
 wpAnyS P md L.toArray Q S n (fuel + 1) listed a w := by
 refine ⟨fun h0 => (by rw [hr] at h0; cases h0), fun k hk => ?_⟩
 rw [hr] at hk
 simp only [List.mem_cons, List.not_mem_nil, or_false] at hk
 rcases hk with rfl | rfl
 ·exact wpOp_step (by simpa using hi) (fun K' hK => h K' (fun a w hS hW => hK a w ⟨fun _ => hS, hW hS (inv.set (by rw [hr]; simp) hin)⟩))
 ·exact wpOp_step (by simpa using hj) (fun K' hK => h' K' (fun a w hS hW => hK a w ⟨fun _ => hS, hW hS (inv.set (by rw [hr]; simp) hjn)⟩))
theorem lastS (i : Nat) {o : Oper} {fuel : Nat} {listed : Array Bool} {a : Act} {w : World} (hi : L[i]? = some o) (hin : n ≤ i) (hr : Region.ready md L.toArray listed = [i])
 (h : ∀ K' : Act → World → Prop, Shut (∀ a w, wpAnyS P md L.toArray Q S n fuel (listed.setIfInBounds i true) a w → K' a w) → if Region.wanted o (yielded L.toArray a.tmps) = true then Oper.wp P o a w K' Q else K' (a.put o.dst undef) w) :
 wpAnyS P md L.toArray Q S n (fuel + 1) listed a w := by
 refine ⟨fun h0 => (by rw [hr] at h0; cases h0), fun j hj => ?_⟩
 rw [hr, List.mem_singleton] at hj
 subst hj
 exact wpOp_step (by simpa using hi) (fun K' hK => h K' (fun a w hW => hK a w ⟨fun h => absurd h (by omega), hW⟩))
end
end Go.Proofs.YtkdhdibjbabgfaaGreatDoor
end
section
namespace Go.Proofs.YtkdhdibjbabgfaaGreatDoor
def swL (d : List Nat) (i j : Nat) : List Nat := (d.set i (d.getD j 0)).set j (d.getD i 0)
theorem getD_set_ {d : List Nat} {i k x : Nat} (hi : i < d.length) : (d.set i x).getD k 0 = if k = i then x else d.getD k 0 := by
 rw [List.getD_eq_getElem?_getD, List.getD_eq_getElem?_getD, List.getElem?_set]
 by_cases h : i = k
 ·subst h; rw [if_pos rfl, if_pos rfl, if_pos hi]; rfl
 ·rw [if_neg h, if_neg (fun e => h e.symm)]
theorem swL_len (d : List Nat) (i j : Nat) : (swL d i j).length = d.length := by unfold swL; rw [List.length_set, List.length_set]
theorem swL_at {d : List Nat} {i j : Nat} (hi : i < d.length) (hj : j < d.length) (k : Nat) : (swL d i j).getD k 0 = if k = j then d.getD i 0 else if k = i then d.getD j 0 else d.getD k 0 := by
 unfold swL
 rw [getD_set_ (by rw [List.length_set]; exact hj), getD_set_ hi]
theorem count_set {d : List Nat} {i x : Nat} (hi : i < d.length) (z : Nat) : (d.set i x).count z + (if d.getD i 0 = z then 1 else 0) = d.count z + (if x = z then 1 else 0) := by
 induction d generalizing i with
 | nil => simp at hi
 | cons y d ih =>
   cases i with
   | zero =>
     rw [List.set_cons_zero, List.count_cons, List.count_cons, List.getD_cons_zero]
     simp only [beq_iff_eq]
     by_cases h1 : x = z <;> by_cases h2 : y = z <;> simp [h1, h2]
   | succ i =>
     rw [List.set_cons_succ, List.count_cons, List.count_cons, List.getD_cons_succ]
     have := ih (by simpa using hi)
     omega
theorem swL_perm {d : List Nat} {i j : Nat} (hi : i < d.length) (hj : j < d.length) : (swL d i j).Perm d := by
 rw [List.perm_iff_count]
 intro z
 unfold swL
 have h1 := count_set (d := d) (i := i) (x := d.getD j 0) hi z
 have h2 := count_set (d := d.set i (d.getD j 0)) (i := j) (x := d.getD i 0) (by rw [List.length_set]; exact hj) z
 rw [getD_set_ hi] at h2
 by_cases e : j = i
 ·subst e; rw [if_pos rfl] at h2; omega
 ·rw [if_neg e] at h2; omega
structure Mv (lo hi : Nat) (d e : List Nat) : Prop where
 len : e.length = d.length
 perm : e.Perm d
 out : ∀ i, ¬ (lo ≤ i ∧ i < hi) → e.getD i 0 = d.getD i 0
 inn : ∀ i, lo ≤ i → i < hi → ∃ j, lo ≤ j ∧ j < hi ∧ e.getD i 0 = d.getD j 0
theorem Mv.refl (lo hi : Nat) (d : List Nat) : Mv lo hi d d := ⟨rfl, List.Perm.refl _, fun _ _ => rfl, fun i h1 h2 => ⟨i, h1, h2, rfl⟩⟩
theorem Mv.trans {lo hi : Nat} {d e f : List Nat} (h : Mv lo hi d e) (g : Mv lo hi e f) : Mv lo hi d f :=
 ⟨g.len.trans h.len, g.perm.trans h.perm, fun i hi => (g.out i hi).trans (h.out i hi), fun i h1 h2 => by
   obtain ⟨j, j1, j2, e1⟩ := g.inn i h1 h2
   obtain ⟨k, k1, k2, e2⟩ := h.inn j j1 j2
   exact ⟨k, k1, k2, e1.trans e2⟩⟩
theorem Mv.wide {lo hi lo2 hi2 : Nat} {d e : List Nat} (h : Mv lo hi d e) (h1 : lo2 ≤ lo) (h2 : hi ≤ hi2) : Mv lo2 hi2 d e :=
 ⟨h.len, h.perm, fun i hi => h.out i (by omega), fun i j1 j2 => by
   by_cases q : lo ≤ i ∧ i < hi
   ·obtain ⟨j, a, b, c⟩ := h.inn i q.1 q.2
    exact ⟨j, by omega, by omega, c⟩
   ·exact ⟨i, j1, j2, h.out i q⟩⟩
theorem Mv.swap {lo hi i j : Nat} {d : List Nat} (h1 : lo ≤ i) (h2 : i < hi) (h3 : lo ≤ j) (h4 : j < hi) (hl : hi ≤ d.length) : Mv lo hi d (swL d i j) := by
 refine ⟨swL_len _ _ _, swL_perm (by omega) (by omega), fun k hk => ?_, fun k k1 k2 => ?_⟩
 ·rw [swL_at (by omega) (by omega), if_neg (by omega), if_neg (by omega)]
 ·rw [swL_at (by omega) (by omega)]
  by_cases e1 : k = j
  ·rw [if_pos e1]; exact ⟨i, h1, h2, rfl⟩
  ·rw [if_neg e1]
   by_cases e2 : k = i
   ·rw [if_pos e2]; exact ⟨j, h3, h4, rfl⟩
   ·rw [if_neg e2]; exact ⟨k, k1, k2, rfl⟩
def Srt (g : Nat → Int) (d : List Nat) (lo hi : Nat) : Prop := ∀ i j, lo ≤ i → i < j → j < hi → g (d.getD i 0) < g (d.getD j 0)
def Lss (g : Nat → Int) (d : List Nat) (lo hi lo2 hi2 : Nat) : Prop := ∀ i j, lo ≤ i → i < hi → lo2 ≤ j → j < hi2 → g (d.getD i 0) < g (d.getD j 0)
theorem Srt.join {g : Nat → Int} {d : List Nat} {lo mid hi : Nat} (h1 : Srt g d lo mid) (h2 : Srt g d mid hi) (h : Lss g d lo mid mid hi) : Srt g d lo hi := by
 intro i j a b c
 by_cases q : j < mid
 ·exact h1 i j a b q
 ·by_cases q2 : i < mid
  ·exact h i j a q2 (by omega) c
  ·exact h2 i j (by omega) b c
theorem Srt.mono {g : Nat → Int} {d : List Nat} {lo hi lo2 hi2 : Nat} (h : Srt g d lo hi) (h1 : lo ≤ lo2) (h2 : hi2 ≤ hi) : Srt g d lo2 hi2 := fun i j a b c => h i j (by omega) b (by omega)
theorem Srt.same {g : Nat → Int} {d e : List Nat} {lo hi : Nat} (h : Srt g d lo hi) (hs : ∀ i, lo ≤ i → i < hi → e.getD i 0 = d.getD i 0) : Srt g e lo hi := fun i j a b c => by
 rw [hs i a (by omega), hs j (by omega) c]; exact h i j a b c
theorem Srt.short {g : Nat → Int} {d : List Nat} {lo hi : Nat} (h : hi ≤ lo + 1) : Srt g d lo hi := fun i j a b c => by omega
theorem Lss.mv1 {g : Nat → Int} {d e : List Nat} {lo mid hi : Nat} (h : Lss g d lo mid mid hi) (m : Mv lo mid d e) : Lss g e lo mid mid hi := fun i j a b c k => by
 obtain ⟨i', q1, q2, e1⟩ := m.inn i a b
 rw [e1, m.out j (by omega)]
 exact h i' j q1 q2 c k
theorem Lss.mv2 {g : Nat → Int} {d e : List Nat} {lo mid hi : Nat} (h : Lss g d lo mid mid hi) (m : Mv mid hi d e) : Lss g e lo mid mid hi := fun i j a b c k => by
 obtain ⟨j', q1, q2, e1⟩ := m.inn j c k
 rw [e1, m.out i (by omega)]
 exact h i j' a b q1 q2
def swF (d : List Nat) (x y n : Nat) (k : Nat) : Nat := if x ≤ k ∧ k < x + n then d.getD (k - x + y) 0 else if y ≤ k ∧ k < y + n then d.getD (k - y + x) 0 else d.getD k 0
def SwR (d e : List Nat) (x y n : Nat) : Prop := e.length = d.length ∧ ∀ k, e.getD k 0 = swF d x y n k
theorem SwR.zero (d : List Nat) (x y : Nat) : SwR d d x y 0 := ⟨rfl, fun k => by unfold swF; rw [if_neg (by omega), if_neg (by omega)]⟩
theorem SwR.step {d e : List Nat} {x y n : Nat} (h : SwR d e x y n) (hx : x + n < y) (hy : y + n < d.length) : SwR d (swL e (x + n) (y + n)) x y (n + 1) := by
 obtain ⟨h1, h2⟩ := h
 refine ⟨by rw [swL_len, h1], fun k => ?_⟩
 rw [swL_at (by omega) (by omega), h2, h2, h2]
 unfold swF
 by_cases e1 : k = y + n
 ·subst e1
  rw [if_pos rfl, if_neg (by omega), if_neg (by omega), if_neg (by omega), if_pos (by omega)]
  congr 1; omega
 ·rw [if_neg e1]
  by_cases e2 : k = x + n
  ·subst e2
   rw [if_pos rfl, if_neg (by omega), if_neg (by omega), if_pos (by omega)]
   congr 1; omega
  ·rw [if_neg e2]
   by_cases q1 : x ≤ k ∧ k < x + n
   ·rw [if_pos q1, if_pos (by omega)]
   ·by_cases q2 : y ≤ k ∧ k < y + n
    ·rw [if_neg q1, if_pos q2, if_neg (by omega), if_pos (by omega)]
    ·rw [if_neg q1, if_neg q2, if_neg (by omega), if_neg (by omega)]
def rotF (d : List Nat) (lo m hi : Nat) (k : Nat) : Nat := if lo ≤ k ∧ k < hi then (if k < lo + (hi - m) then d.getD (k - lo + m) 0 else d.getD (k - (hi - m)) 0) else d.getD k 0
theorem rot_left {d e : List Nat} {lo m hi : Nat} (h : SwR d e lo m (hi - m)) (h1 : hi - m < m - lo) (h2 : m ≤ hi) (k : Nat) : rotF e (lo + (hi - m)) m hi k = rotF d lo m hi k := by
 have q := h.2
 unfold rotF
 by_cases k1 : lo ≤ k ∧ k < hi
 ·by_cases k2 : k < lo + (hi - m)
  ·rw [if_neg (by omega), if_pos k1, if_pos k2, q]
   unfold swF
   rw [if_pos (by omega)]
  ·rw [if_pos (by omega), if_pos k1, if_neg k2]
   by_cases k3 : k < lo + (hi - m) + (hi - m)
   ·rw [if_pos k3, q]
    unfold swF
    rw [if_neg (by omega), if_pos (by omega)]
    congr 1; omega
   ·rw [if_neg k3, q]
    unfold swF
    rw [if_neg (by omega), if_neg (by omega)]
 ·rw [if_neg (by omega), if_neg k1, q]
  unfold swF
  rw [if_neg (by omega), if_neg (by omega)]
theorem rot_right {d e : List Nat} {lo m hi : Nat} (h : SwR d e lo (hi - (m - lo)) (m - lo)) (h1 : m - lo < hi - m) (h2 : lo ≤ m) (k : Nat) : rotF e lo m (hi - (m - lo)) k = rotF d lo m hi k := by
 have q := h.2
 unfold rotF
 by_cases k1 : lo ≤ k ∧ k < hi
 ·by_cases k2 : k < hi - (m - lo)
  ·rw [if_pos (by omega), if_pos k1]
   by_cases k3 : k < lo + (hi - (m - lo) - m)
   ·rw [if_pos k3, if_pos (by omega), q]
    unfold swF
    rw [if_neg (by omega), if_neg (by omega)]
   ·rw [if_neg k3, if_pos (by omega), q]
    unfold swF
    rw [if_pos (by omega)]
    congr 1; omega
  ·rw [if_neg (by omega), if_pos k1, q, if_neg (by omega)]
   unfold swF
   rw [if_neg (by omega), if_pos (by omega)]
   congr 1; omega
 ·rw [if_neg (by omega), if_neg k1, q]
  unfold swF
  rw [if_neg (by omega), if_neg (by omega)]
theorem rot_even {d e : List Nat} {lo m hi : Nat} (h : SwR d e lo m (m - lo)) (h1 : m - lo = hi - m) (h2 : lo ≤ m) (h3 : m ≤ hi) (k : Nat) : e.getD k 0 = rotF d lo m hi k := by
 rw [h.2]
 unfold swF rotF
 by_cases k1 : lo ≤ k ∧ k < hi
 ·rw [if_pos k1]
  by_cases k2 : k < lo + (hi - m)
  ·rw [if_pos (by omega), if_pos k2]
  ·rw [if_neg (by omega), if_pos (by omega), if_neg k2]
   congr 1; omega
 ·rw [if_neg (by omega), if_neg (by omega), if_neg k1]
def nI (x : Nat) : Int := x
structure Key (N : Nat) (f g : Nat → Int) : Prop where
 lt : ∀ x y, y < x → x < N → f x < f y → g x < g y
 ge : ∀ x y, y < x → x < N → ¬ f x < f y → g y < g x
theorem key_mk (N : Nat) (f : Nat → Int) : Key N f (fun x => f x * N + x) := by
 refine ⟨fun x y h hx hf => ?_, fun x y h hx hf => ?_⟩
 ·have h1 : f x + 1 ≤ f y := by omega
  have h2 : (f x + 1) * (N : Int) ≤ f y * N := Int.mul_le_mul_of_nonneg_right h1 (by omega)
  rw [Int.add_mul] at h2
  show f x * N + x < f y * N + y
  omega
 ·have h1 : f y ≤ f x := by omega
  have h2 : f y * (N : Int) ≤ f x * N := Int.mul_le_mul_of_nonneg_right h1 (by omega)
  show f y * N + y < f x * N + x
  omega
structure Cut (g : Nat → Int) (d : List Nat) (a m b s0 r0 start e : Nat) : Prop where
 am : a < m
 mb : m < b
 bd : a ≤ s0 ∧ s0 ≤ start ∧ start ≤ r0 ∧ r0 ≤ m ∧ r0 ≤ (a + b) / 2 ∧ (a + b) / 2 + m ≤ s0 + b
 rr : r0 = m ∨ r0 = (a + b) / 2
 ss : s0 = a ∨ s0 + b = (a + b) / 2 + m
 ee : e + start = (a + b) / 2 + m
 lo : ∀ c, s0 ≤ c → c < start → g (d.getD c 0) < g (d.getD ((a + b) / 2 + m - 1 - c) 0)
 hi : ∀ c, start ≤ c → c < r0 → g (d.getD ((a + b) / 2 + m - 1 - c) 0) < g (d.getD c 0)
theorem rotF_a {d : List Nat} {lo m hi k : Nat} (h : ¬ (lo ≤ k ∧ k < hi)) : rotF d lo m hi k = d.getD k 0 := by unfold rotF; rw [if_neg h]
theorem rotF_b {d : List Nat} {lo m hi k : Nat} (h : lo ≤ k) (h2 : k < lo + (hi - m)) (h3 : lo ≤ m) (h4 : m ≤ hi) : rotF d lo m hi k = d.getD (k - lo + m) 0 := by unfold rotF; rw [if_pos (by omega), if_pos h2]
theorem rotF_c {d : List Nat} {lo m hi k : Nat} (h : lo + (hi - m) ≤ k) (h2 : k < hi) (h3 : lo ≤ m) (h4 : m ≤ hi) : rotF d lo m hi k = d.getD (k - (hi - m)) 0 := by unfold rotF; rw [if_pos (by omega), if_neg (by omega)]
theorem Cut.left {g k : Nat → Int} {d e : List Nat} {a m b s0 r0 start en : Nat} (c : Cut g d a m b s0 r0 start en) (h2 : Lss k d a m m b) (hr : ∀ i, e.getD i 0 = rotF d start m en i) : Lss k e a start start ((a + b) / 2) := by
 have hs0 := c.bd; have he := c.ee; have h3 := c.am; have h4 := c.mb
 intro i j i1 i2 j1 j2
 rw [hr, hr, rotF_a (by omega), rotF_b (by omega) (by omega) (by omega) (by omega)]
 exact h2 _ _ (by omega) (by omega) (by omega) (by omega)
theorem Cut.right {g k : Nat → Int} {d e : List Nat} {a m b s0 r0 start en : Nat} (c : Cut g d a m b s0 r0 start en) (h2 : Lss k d a m m b) (hr : ∀ i, e.getD i 0 = rotF d start m en i) : Lss k e ((a + b) / 2) en en b := by
 have hs0 := c.bd; have he := c.ee; have h3 := c.am; have h4 := c.mb
 intro i j i1 i2 j1 j2
 rw [hr, hr, rotF_c (by omega) (by omega) (by omega) (by omega), rotF_a (by omega)]
 exact h2 _ _ (by omega) (by omega) (by omega) (by omega)
theorem Cut.srt {g : Nat → Int} {d e : List Nat} {a m b s0 r0 start en : Nat} (c : Cut g d a m b s0 r0 start en) (l : Srt g d a m) (r : Srt g d m b) (hr : ∀ i, e.getD i 0 = rotF d start m en i) :
 Srt g e a start ∧ Srt g e start ((a + b) / 2) ∧ Srt g e ((a + b) / 2) en ∧ Srt g e en b := by
 have hs0 := c.bd; have he := c.ee; have h3 := c.am; have h4 := c.mb
 refine ⟨fun i j i1 i2 i3 => ?_, fun i j i1 i2 i3 => ?_, fun i j i1 i2 i3 => ?_, fun i j i1 i2 i3 => ?_⟩
 ·rw [hr, hr, rotF_a (by omega), rotF_a (by omega)]; exact l _ _ (by omega) (by omega) (by omega)
 ·rw [hr, hr, rotF_b (by omega) (by omega) (by omega) (by omega), rotF_b (by omega) (by omega) (by omega) (by omega)]; exact r _ _ (by omega) (by omega) (by omega)
 ·rw [hr, hr, rotF_c (by omega) (by omega) (by omega) (by omega), rotF_c (by omega) (by omega) (by omega) (by omega)]; exact l _ _ (by omega) (by omega) (by omega)
 ·rw [hr, hr, rotF_a (by omega), rotF_a (by omega)]; exact r _ _ (by omega) (by omega) (by omega)
theorem le_of_srt {g : Nat → Int} {d : List Nat} {lo hi i j : Nat} (h : Srt g d lo hi) (h1 : lo ≤ i) (h2 : i ≤ j) (h3 : j < hi) : g (d.getD i 0) ≤ g (d.getD j 0) := by
 by_cases e : i = j
 ·subst e; exact Int.le_refl _
 ·exact Int.le_of_lt (h i j h1 (by omega) h3)
theorem Cut.mid {g : Nat → Int} {d e : List Nat} {a m b s0 r0 start en : Nat} (c : Cut g d a m b s0 r0 start en) (l : Srt g d a m) (r : Srt g d m b) (hr : ∀ i, e.getD i 0 = rotF d start m en i) :
 Lss g e a ((a + b) / 2) ((a + b) / 2) b := by
 have hs0 := c.bd; have he := c.ee; have h3 := c.am; have h4 := c.mb; have hr0 := c.rr; have hs1 := c.ss
 intro i j i1 i2 j1 j2
 rw [hr, hr]
 by_cases q1 : i < start
 ·rw [rotF_a (by omega)]
  by_cases q2 : j < en
  ·rw [rotF_c (by omega) (by omega) (by omega) (by omega)]
   exact l _ _ (by omega) (by omega) (by omega)
  ·rw [rotF_a (by omega)]
   -- a beginning of the left one against an end of the right one
   have hgt : s0 < start ∨ s0 = start := by omega
   rcases hgt with hgt | hgt
   ·have k1 := c.lo (start - 1) (by omega) (by omega)
    have e1 : (a + b) / 2 + m - 1 - (start - 1) = en := by omega
    rw [e1] at k1
    have k2 := le_of_srt l (i := i) (j := start - 1) (by omega) (by omega) (by omega)
    have k3 := le_of_srt r (i := en) (j := j) (by omega) (by omega) (by omega)
    omega
   ·rcases hs1 with hs1 | hs1
    ·omega
    ·omega
 ·rw [rotF_b (by omega) (by omega) (by omega) (by omega)]
  by_cases q2 : j < en
  ·rw [rotF_c (by omega) (by omega) (by omega) (by omega)]
   have hgt : start < r0 ∨ start = r0 := by omega
   rcases hgt with hgt | hgt
   ·have k1 := c.hi start (by omega) hgt
    have k2 := le_of_srt l (i := start) (j := j - (en - m)) (by omega) (by omega) (by omega)
    have k3 := le_of_srt r (i := i - start + m) (j := (a + b) / 2 + m - 1 - start) (by omega) (by omega) (by omega)
    omega
   ·omega
  ·rw [rotF_a (by omega)]
   exact r _ _ (by omega) (by omega) (by omega)
theorem find_lo {g : Nat → Int} {d : List Nat} {a m b s0 c p : Nat} (l : Srt g d a m) (r : Srt g d m b) (h : g (d.getD c 0) < g (d.getD (p - c) 0)) (h1 : a ≤ s0) (h2 : c < m) (h3 : p < s0 + b) (h4 : m + c ≤ p) :
 ∀ k, s0 ≤ k → k < c + 1 → g (d.getD k 0) < g (d.getD (p - k) 0) := fun k k1 k2 => by
 have q1 := le_of_srt l (i := k) (j := c) (by omega) (by omega) (by omega)
 have q2 := le_of_srt r (i := p - c) (j := p - k) (by omega) (by omega) (by omega)
 omega
theorem find_hi {g : Nat → Int} {d : List Nat} {a m b s0 c p r0 : Nat} (l : Srt g d a m) (r : Srt g d m b) (h : g (d.getD (p - c) 0) < g (d.getD c 0)) (h1 : a ≤ s0) (h2 : s0 ≤ c) (h3 : p < s0 + b) (h4 : r0 ≤ m) (h5 : m + r0 ≤ p + 1) :
 ∀ k, c ≤ k → k < r0 → g (d.getD (p - k) 0) < g (d.getD k 0) := fun k k1 k2 => by
 have q1 := le_of_srt l (i := c) (j := k) (by omega) (by omega) (by omega)
 have q2 := le_of_srt r (i := p - k) (j := p - c) (by omega) (by omega) (by omega)
 omega
theorem Srt.mv {g : Nat → Int} {d e : List Nat} {lo hi lo2 hi2 : Nat} (h : Srt g d lo2 hi2) (m : Mv lo hi d e) (ho : hi ≤ lo2 ∨ hi2 ≤ lo) : Srt g e lo2 hi2 := h.same fun i i1 i2 => m.out i (by omega)
theorem Lss.mvA {g : Nat → Int} {d e : List Nat} {lo hi lo1 hi1 lo2 hi2 : Nat} (h : Lss g d lo1 hi1 lo2 hi2) (m : Mv lo hi d e) (h1 : (hi ≤ lo1 ∨ hi1 ≤ lo) ∨ (lo1 ≤ lo ∧ hi ≤ hi1)) (h2 : (hi ≤ lo2 ∨ hi2 ≤ lo) ∨ (lo2 ≤ lo ∧ hi ≤ hi2)) : Lss g e lo1 hi1 lo2 hi2 := fun i j i1 i2 j1 j2 => by
 have q1 : ∃ i', lo1 ≤ i' ∧ i' < hi1 ∧ e.getD i 0 = d.getD i' 0 := by
  by_cases q : lo ≤ i ∧ i < hi
  ·obtain ⟨i', a, b, c⟩ := m.inn i q.1 q.2
   exact ⟨i', by omega, by omega, c⟩
  ·exact ⟨i, i1, i2, m.out i q⟩
 have q2 : ∃ j', lo2 ≤ j' ∧ j' < hi2 ∧ e.getD j 0 = d.getD j' 0 := by
  by_cases q : lo ≤ j ∧ j < hi
  ·obtain ⟨j', a, b, c⟩ := m.inn j q.1 q.2
   exact ⟨j', by omega, by omega, c⟩
  ·exact ⟨j, j1, j2, m.out j q⟩
 obtain ⟨i', a1, a2, a3⟩ := q1
 obtain ⟨j', b1, b2, b3⟩ := q2
 rw [a3, b3]
 exact h i' j' a1 a2 b1 b2
def insF (d : List Nat) (i j k : Nat) : Nat := if k = j then d.getD i 0 else if j < k ∧ k ≤ i then d.getD (k - 1) 0 else d.getD k 0
structure Ins (d e : List Nat) (a i j : Nat) : Prop where
 at_ : ∀ k, e.getD k 0 = insF d i j k
 mv : Mv a (i + 1) d e
theorem Ins.start (d : List Nat) (a i : Nat) : Ins d d a i i := ⟨fun k => by
 unfold insF
 by_cases h : k = i
 ·rw [if_pos h, h]
 ·rw [if_neg h, if_neg (by omega)], Mv.refl _ _ _⟩
theorem Ins.step {d e : List Nat} {a i j : Nat} (h : Ins d e a i (j + 1)) (ha : a ≤ j) (hj : j + 1 ≤ i) (hi : i < d.length) : Ins d (swL e (j + 1) j) a i j := by
 have hl := h.mv.len
 refine ⟨fun k => ?_, h.mv.trans (Mv.swap (by omega) (by omega) (by omega) (by omega) (by omega))⟩
 rw [swL_at (by omega) (by omega), h.at_, h.at_, h.at_]
 unfold insF
 by_cases e1 : k = j
 ·subst e1
  rw [if_pos rfl, if_pos rfl, if_pos rfl]
 ·rw [if_neg e1, if_neg e1]
  by_cases e2 : k = j + 1
  ·subst e2
   rw [if_pos rfl, if_neg (by omega), if_neg (by omega), if_pos (by omega)]
   congr 1
  ·rw [if_neg e2, if_neg e2]
   by_cases q : j + 1 < k ∧ k ≤ i
   ·rw [if_pos q, if_pos (by omega)]
   ·rw [if_neg q, if_neg (by omega)]
theorem Ins.done {g : Nat → Int} {d e : List Nat} {a i j : Nat} (h : Ins d e a i j) (hs : Srt g d a i) (hj : a ≤ j) (hji : j ≤ i) (h1 : j = a ∨ g (d.getD (j - 1) 0) < g (d.getD i 0)) (h2 : ∀ q, j ≤ q → q < i → g (d.getD i 0) < g (d.getD q 0)) : Srt g e a (i + 1) := by
 intro p q p1 p2 p3
 rw [h.at_, h.at_]
 unfold insF
 by_cases e1 : p = j
 ·subst e1
  rw [if_pos rfl, if_neg (by omega), if_pos (by omega)]
  exact h2 _ (by omega) (by omega)
 ·rw [if_neg e1]
  by_cases e2 : q = j
  ·subst e2
   rw [if_pos rfl, if_neg (by omega)]
   rcases h1 with h1 | h1
   ·omega
   ·have := le_of_srt hs (i := p) (j := q - 1) p1 (by omega) (by omega)
    omega
  ·rw [if_neg e2]
   by_cases k1 : j < p ∧ p ≤ i
   ·rw [if_pos k1, if_pos (by omega)]
    exact hs _ _ (by omega) (by omega) (by omega)
   ·rw [if_neg k1]
    by_cases k2 : j < q ∧ q ≤ i
    ·rw [if_pos k2]
     by_cases k3 : p = q - 1
     ·omega
     ·exact hs _ _ (by omega) (by omega) (by omega)
    ·rw [if_neg k2]
     exact hs _ _ (by omega) (by omega) (by omega)
theorem Ins.below {g : Nat → Int} {d : List Nat} {i j : Nat} (h : g (d.getD i 0) < g (d.getD j 0)) (h2 : ∀ q, j + 1 ≤ q → q < i → g (d.getD i 0) < g (d.getD q 0)) : ∀ q, j ≤ q → q < i → g (d.getD i 0) < g (d.getD q 0) := fun q q1 q2 => by
 by_cases e : q = j
 ·subst e; exact h
 ·exact h2 q (by omega) q2
theorem srt_pair {g : Nat → Int} {d : List Nat} (h : Srt g d 0 d.length) : d.Pairwise (fun x y => g x < g y) := by
 rw [List.pairwise_iff_getElem]
 intro i j hi hj hij
 have := h i j (by omega) hij hj
 rwa [List.getD_eq_getElem?_getD, List.getD_eq_getElem?_getD, List.getElem?_eq_getElem hi, List.getElem?_eq_getElem hj] at this
theorem asc_lss {d : List Nat} {lo mid hi : Nat} (h : Srt nI d lo hi) : Lss nI d lo mid mid hi := fun i j a b c k => h i j a (by omega) k
theorem nI_lt {d : List Nat} {i j : Nat} (h : nI (d.getD i 0) < nI (d.getD j 0)) : d.getD i 0 < d.getD j 0 := by unfold nI at h; omega
end Go.Proofs.YtkdhdibjbabgfaaGreatDoor
end
section
namespace Go.Proofs.YtkdhdibjbabgfaaGreatDoor
open Go.RowKit
def SeqTold {α : Type} (F : Fence) (n : Nat) (P : Program) (g : Nat) (lb : Array Value) (encs : α → Array Value) (Kp : World → World → Prop) (T : α → World → Prop) (S Sp : List α → Prop) (N : Nat) (w : World) : Prop :=
 ∀ (l : Nat) (J Jx : List α → World → Prop) (W : World), Below w.heap.size w W → AbidesFrom W.heap.size J → AbidesFrom W.heap.size Jx →
   (∀ pre x W1, J pre W1 → T x W1 → pre.length < N → YieldAt F (n - 1) P l (encs x) W1 fun e W' =>
     (e = .returned (.bool true) ∧ J (pre ++ [x]) W' ∧ Kp W1 W') ∨ (e = .returned (.bool false) ∧ Jx (pre ++ [x]) W')) →
   J [] W → CallsIn F n P g (#[.func (.yield l) #[] #[]] ++ lb) W fun e W' => (∃ v, e = .returned v) ∧ ((∃ xs, S xs ∧ J xs W') ∨ (∃ pre, Sp pre ∧ Jx pre W'))
section
variable {F : Fence} {n : Nat} {P : Program}
def Lp (L D : Nat) (r : Loop) (W : World) : Prop := W.heap[L]? = some (.loop r) ∧ W.heap[D]? = some (.deferred (some []))
theorem Lp.grown {L D : Nat} {r : Loop} {W W' : World} {row : Option Nat} (h : Lp L D r W) (hg : W.grownBy W' row) (hr : ∀ k, row = some k → ∃ o : Obj, W.heap[k]? = some o ∧ o.isWalk = true) : Lp L D r W' :=
 ⟨(grownBy_keeps hg hr h.1 rfl).trans h.1, (grownBy_keeps hg hr h.2 rfl).trans h.2⟩
theorem Lp.turn {L D : Nat} {r : Loop} {W : World} (h : Lp L D r W) (hne : L ≠ D) (r' : Loop) : Lp L D r' (W.putObj L (.loop r')) :=
 ⟨World.putObj_heap_same (Array.getElem?_eq_some_iff.1 h.1).1, (World.putObj_heap_other hne.symm).trans h.2⟩
theorem Lp.from {B L D : Nat} {r : Loop} {W W' : World} (h : Lp L D r W) (hk : KeepsFrom B W W') (hL : B ≤ L) (hD : B ≤ D) : Lp L D r W' := ⟨hk.same _ _ hL h.1 rfl, hk.same _ _ hD h.2 rfl⟩
theorem wpIn_rangeFunc_told {α : Type} {g : Operand} {ps : Array Tmp} {assign body : Code} {Q : Exit → Act → World → Prop} {a : Act} {w : World}
 (hro : F.round = none) (h1 : 1 ≤ n) {gf : Nat} {lb : Array Value} (hg : a.eval g = .func (.func gf) #[] lb) (hFg : F.fn gf) (eg : ∀ args w, (callFunc gf args).run P w = .ok (.enter gf args) w)
 {encs : α → Array Value} {Kp : World → World → Prop} {T : α → World → Prop} {S Sp : List α → Prop} {N : Nat} {w0 : World} (hseq : SeqTold F (n - 1) P gf lb encs Kp T S Sp N w0)
 (hKt : ∀ {A B C : World}, Kp A B → Kp B C → Kp A C) (hKb : ∀ (W : World) (l : Nat) (o o' : Obj), w.heap.size ≤ l → W.heap[l]? = some o → o.isCells = false → o.isWalk = false → Kp W (W.putObj l o')) (hb0 : Below w0.heap.size w0 w) (hps : ∀ x, (encs x).size = ps.size)
 (I : List α → World → Prop) (Ix : Code → List α → World → Prop) (hI : OwnFrom w.heap.size I) (hIx : ∀ c, OwnFrom w.heap.size (Ix c)) (h0 : I [] w) (Ax : α → Act → World → Prop) (hAx : ∀ x a', OwnFrom w.heap.size (fun (_ : Unit) W => Ax x a' W))
 (hassign : ∀ (l : Nat) (pre : List α) (x : α) (W : World) (K : Act → World → Prop), I pre W → T x W → (∀ a' W', KeepsFrom w.heap.size W W' → Kp W W' → I pre W' → Ax x a' W' → K a' W') →
   assign.wpIn (F.inRound l) (n - 1 - 1) P (Exit.then K (fun _ _ _ => False)) { tmps := (ps.zip (encs x)).foldl (fun t (p, v) => t.setIfInBounds p v) a.tmps, defers := [] } W)
 (hbody : ∀ (l : Nat) (pre : List α) (x : α) (a' : Act) (W : World), I pre W → Ax x a' W → pre.length < N → body.wpIn (F.inRound l) (n - 1 - 1) P (ownPostG w.heap.size Kp I Ix (pre ++ [x]) W) a' W)
 (hdone : ∀ (D : Nat) (xs : List α) (W : World), w.heap.size ≤ D → S xs → I xs W → W.heap[D]? = some (.deferred (some [])) → Q .normal { a with defers := { target := .collected D, args := #[] } :: a.defers } W)
 (hstop : ∀ (D : Nat) (c : Code) (pre : List α) (W : World), w.heap.size ≤ D → Sp pre → Ix c pre W → W.heap[D]? = some (.deferred (some [])) → c.wpIn F n P Q { a with defers := { target := .collected D, args := #[] } :: a.defers } W) :
 (Code.rangeFunc g ps assign body).wpIn F n P Q a w := by
 refine wpIn_rangeFunc ?_
 intro fn hfn
 rw [hro]
 obtain ⟨R, hR⟩ : ∃ R : LoopState → Option Code → Loop, R = fun st pe => { state := st, pending := pe, fn, tmps := a.tmps, params := ps, assign, body, defers := w.heap.size } := ⟨_, rfl⟩
 obtain ⟨W1, hW1⟩ : ∃ W1, W1 = (w.alloc (.deferred (some []))).alloc (.loop (R .ready none)) := ⟨_, rfl⟩
 have hen : (Instr.enterLoop fn a.tmps ps assign body none).run P w = .ok (w.heap.size + 1, [{ target := .collected w.heap.size, args := #[] }]) W1 := by
  rw [hW1, hR]; exact run_enterLoop_outer _ _ _ _ _
 have hlp : Lp (w.heap.size + 1) w.heap.size (R .ready none) W1 := by
  have q := World.alloc_heap_new (w.alloc (.deferred (some []))) (.loop (R .ready none))
  rw [World.size_alloc] at q
  rw [hW1]
  exact ⟨q, (Below.heap_alloc _ _ _ (by simp)).trans (World.alloc_heap_new w _)⟩
 have hi1 : I [] W1 := by rw [hW1]; exact hI.alloc _ (hI.alloc _ h0)
 have hb1 : Below w0.heap.size w0 W1 := by rw [hW1]; exact hb0.trans (((bZ w _).alloc (by simp) _).mono hb0.size)
 have hs1 : w.heap.size ≤ W1.heap.size := by rw [hW1]; simp; omega
 have hne : w.heap.size + 1 ≠ w.heap.size := by omega
 clear hW1
 refine ⟨_, _, W1, { target := .fn (.func gf) lb, args := #[.func (.yield (w.heap.size + 1)) #[] #[]] }, W1, gf, #[.func (.yield (w.heap.size + 1)) #[] #[]] ++ lb, W1, hen,
  by simp only [resolve, hg]; simp [go_sem], fun f' hf' => by simp [Target.leads] at hf'; subst hf'; exact hFg, by simp [invoke, go_sem, eg], fun _ => h1, ?_⟩
 clear hen
 have hrow : ∀ {A : World} {row : Option Nat}, (∀ r, row = some r → W1.heap.size ≤ r ∧ ∃ o : Obj, A.heap[r]? = some o ∧ o.isWalk = true) → (∀ r, row = some r → w.heap.size ≤ r ∧ ∃ o : Obj, A.heap[r]? = some o ∧ o.isCells = false) := fun h r e => by
  obtain ⟨q, o, ho, hw⟩ := h r e
  exact ⟨Nat.le_trans hs1 q, o, ho, Obj.not_cells_of_walk hw⟩
 have hend : ∀ (j : Option Code) (W3 : World), Lp (w.heap.size + 1) w.heap.size { R .ready none with state := .busy } W3 →
  (Instr.endRound (w.heap.size + 1) j).run P W3 = .ok (.bool j.isNone) (W3.putObj (w.heap.size + 1) (.loop (R (if j.isNone then .ready else .done) j))) := fun j W3 h => by
  have := run_endRound (P := P) j h.1
  rw [hR] at this ⊢
  exact this
 refine (hseq (w.heap.size + 1) (fun pre W => I pre W ∧ Lp (w.heap.size + 1) w.heap.size (R .ready none) W) (fun pre W => ∃ c, Ix c pre W ∧ Lp (w.heap.size + 1) w.heap.size (R .done (some c)) W) W1 hb1
  (fun s A B row hs hg hr => ⟨hI s A B row hs.1 hg (hrow hr), hs.2.grown hg (fun k e => (hr k e).2)⟩)
  (fun s A B row ⟨c, hc, hl⟩ hg hr => ⟨c, hIx c s A B row hc hg (hrow hr), hl.grown hg (fun k e => (hr k e).2)⟩) ?_ ⟨hi1, hlp⟩).mono ?_
 ·rintro pre x W ⟨hi, hl⟩ hT hlen
  have hy := run_yield (P := P) (args := encs x) hl.1 (by rw [hR]; exact hps x)
  rw [hR] at hy
  refine ⟨fn, _, assign, body, hy, roundIn_of_wpIn hfn (hassign _ pre x W _ hi hT ?_)⟩
  intro a' Wa hk hkp hia hax
  have hla := hl.from hk (by omega) (Nat.le_refl _)
  have hlb := hla.turn hne { R .ready none with state := .busy }
  have hkb := hKt hkp (hKb Wa _ _ (.loop { R .ready none with state := .busy }) (by omega) hla.1 rfl rfl)
  refine ⟨_, run_beginRound hla.1 (by rw [hR]), wpIn_mono (hbody _ pre x a' _ (hI.putObj _ hia (by omega) hla.1 rfl) ((hAx x a').putObj (s := ()) _ hax (by omega) hla.1 rfl) hlen) ?_⟩
  rintro e a3 W3 hp
  have stop : ∀ c, KeepsFrom w.heap.size (Wa.putObj (w.heap.size + 1) (.loop { R .ready none with state := .busy })) W3 ∧ Ix c (pre ++ [x]) W3 →
   Ix c (pre ++ [x]) (W3.putObj (w.heap.size + 1) (.loop (R .done (some c)))) ∧ Lp (w.heap.size + 1) w.heap.size (R .done (some c)) (W3.putObj (w.heap.size + 1) (.loop (R .done (some c)))) := fun c h => by
   have h3 := hlb.from h.1 (by omega) (Nat.le_refl _)
   exact ⟨(hIx c).putObj _ h.2 (by omega) h3.1 rfl, h3.turn hne _⟩
  cases e with
  | normal =>
    obtain ⟨hk3, hkp3, hi3⟩ := hp
    have h3 := hlb.from hk3 (by omega) (Nat.le_refl _)
    exact ⟨_, _, hend none W3 h3, .inl ⟨rfl, ⟨hI.putObj _ hi3 (by omega) h3.1 rfl, h3.turn hne _⟩, hKt hkb (hKt hkp3 (hKb _ _ _ _ (by omega) h3.1 rfl rfl))⟩⟩
  | ret => exact ⟨_, _, hend (some .ret) W3 (hlb.from hp.1 (by omega) (Nat.le_refl _)), .inr ⟨rfl, .ret, stop _ hp⟩⟩
  | exit id => exact ⟨_, _, hend (some (.exit id)) W3 (hlb.from hp.1 (by omega) (Nat.le_refl _)), .inr ⟨rfl, .exit id, stop _ hp⟩⟩
  | goto t => exact ⟨_, _, hend (some (.goto t)) W3 (hlb.from hp.1 (by omega) (Nat.le_refl _)), .inr ⟨rfl, .goto t, stop _ hp⟩⟩
  | panic ch => exact hp.elim
  | outgrown => exact hp.elim
 ·rintro e W2 ⟨⟨v, rfl⟩, (⟨xs, hS, hi, hl⟩ | ⟨pre, hSp, c, hi, hl⟩)⟩
  ·have q := run_endLoop (P := P) hl.1 (by rw [hR]; simp)
   rw [hR] at q
   exact ⟨none, _, q, hdone _ xs _ (Nat.le_refl _) hS (hI.putObj _ hi (by omega) hl.1 rfl) ((World.putObj_heap_other (by omega)).trans hl.2)⟩
  ·have q := run_endLoop (P := P) hl.1 (by rw [hR]; simp)
   rw [hR] at q
   exact ⟨some c, _, q, hstop _ c pre _ (Nat.le_refl _) hSp ((hIx c).putObj _ hi (by omega) hl.1 rfl) ((World.putObj_heap_other (by omega)).trans hl.2)⟩
end
end Go.Proofs.YtkdhdibjbabgfaaGreatDoor
end
