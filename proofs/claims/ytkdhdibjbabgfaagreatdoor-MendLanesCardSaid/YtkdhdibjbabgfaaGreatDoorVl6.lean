/-
  Part of the proof of MendLanes.
-/
import Derived.Deep.RegionHeld3
import Derived.OwnWalkIn
import Derived.StillTail
import Derived.Handy
import Derived.RangeFuncBound
import Derived.RangeFuncBox
import Derived.RangeFuncCalls
import Derived.RangeFuncFrom
import Derived.RangeFuncLeaves
import Derived.RangeFuncNested
import Derived.RangeFuncWrites
import Derived.Test.YtkdhdibjbabgfaaGreatDoorVl0
set_option linter.unusedVariables false
set_option linter.unusedSimpArgs false
section
namespace Go.Proofs.YtkdhdibjbabgfaaGreatDoor
section
variable {P : Program} {L : List Oper} {Q : Exit → Act → World → Prop} {md : Region.Mode} {S : World → Prop}
theorem takeL (i : Nat) {o : Oper} {v : Value} {fuel : Nat} {listed : Array Bool} {a : Act} {w : World} (hi : L[i]? = some o)
 (hs : Region.noSelect L.toArray = true) (hf : Region.free md L.toArray listed i = true) (hr : (Region.ready md L.toArray listed).contains i = true)
 (hQ : ∀ c a w, Q (.panic c) (a.put o.dst v) w → Q (.panic c) a w) (hw : Region.wanted o (yielded L.toArray a.tmps) = true) (hS : S w)
 (hy : ∀ w, S w → (execOp a.eval o).run P w = .ok (.value v) w)
 (h : wpAnyH P md L.toArray Q S fuel (listed.setIfInBounds i true) (a.put o.dst v) w) : wpAnyH P md L.toArray Q S (fuel + 1) listed a w :=
 wpAnyH_take (by simpa using hi) hs hf hr hQ (.inl ⟨hw, hy⟩) hS h
theorem idleL (i : Nat) {o : Oper} {fuel : Nat} {listed : Array Bool} {a : Act} {w : World} (hi : L[i]? = some o)
 (hs : Region.noSelect L.toArray = true) (hf : Region.free md L.toArray listed i = true) (hr : (Region.ready md L.toArray listed).contains i = true)
 (hQ : ∀ c a w, Q (.panic c) (a.put o.dst undef) w → Q (.panic c) a w) (hw : Region.wanted o (yielded L.toArray a.tmps) = false) (hS : S w)
 (h : wpAnyH P md L.toArray Q S fuel (listed.setIfInBounds i true) (a.put o.dst undef) w) : wpAnyH P md L.toArray Q S (fuel + 1) listed a w :=
 wpAnyH_take (by simpa using hi) hs hf hr hQ (.inr ⟨hw, rfl⟩) hS h
theorem oneL (i : Nat) {o : Oper} {fuel : Nat} {listed : Array Bool} {a : Act} {w : World} (hi : L[i]? = some o) (hr : Region.ready md L.toArray listed = [i])
 (h : ∀ K' : Act → World → Prop, Shut (∀ a w, S w → (S w → wpAnyH P md L.toArray Q S fuel (listed.setIfInBounds i true) a w) → K' a w) → if Region.wanted o (yielded L.toArray a.tmps) = true then Oper.wp P o a w K' Q else K' (a.put o.dst undef) w) :
 wpAnyH P md L.toArray Q S (fuel + 1) listed a w :=
 wpAnyH_ready hr (by simp) (AllReadyH.cons (by simpa using hi) h AllReadyH.nil)
theorem twoL (i j : Nat) {o o' : Oper} {fuel : Nat} {listed : Array Bool} {a : Act} {w : World} (hi : L[i]? = some o) (hj : L[j]? = some o') (hr : Region.ready md L.toArray listed = [i, j])
 (h : ∀ K' : Act → World → Prop, Shut (∀ a w, S w → (S w → wpAnyH P md L.toArray Q S fuel (listed.setIfInBounds i true) a w) → K' a w) → if Region.wanted o (yielded L.toArray a.tmps) = true then Oper.wp P o a w K' Q else K' (a.put o.dst undef) w)
 (h' : ∀ K' : Act → World → Prop, Shut (∀ a w, S w → (S w → wpAnyH P md L.toArray Q S fuel (listed.setIfInBounds j true) a w) → K' a w) → if Region.wanted o' (yielded L.toArray a.tmps) = true then Oper.wp P o' a w K' Q else K' (a.put o'.dst undef) w) :
 wpAnyH P md L.toArray Q S (fuel + 1) listed a w :=
 wpAnyH_ready hr (by simp) (AllReadyH.cons (by simpa using hi) h (AllReadyH.cons (by simpa using hj) h' AllReadyH.nil))
end
end Go.Proofs.YtkdhdibjbabgfaaGreatDoor
end
section
namespace Go.Proofs.YtkdhdibjbabgfaaGreatDoor
section
variable {P : Program} {ops : Array Oper} {Q : Exit → Act → World → Prop} {md : Region.Mode} {S : World → Prop}
def wpAnyS (P : Program) (md : Region.Mode) (ops : Array Oper) (Q : Exit → Act → World → Prop) (S : World → Prop) (n : Nat) : Nat → Array Bool → Act → World → Prop
 | 0, listed, a, w => Region.ready md ops listed = [] ∧ Q .normal a w
 | fuel + 1, listed, a, w =>
   (Region.ready md ops listed = [] → Q .normal a w) ∧
   ∀ i ∈ Region.ready md ops listed, wpOp P ops Q i (fun a' w' => (i < n → S w') ∧ wpAnyS P md ops Q S n fuel (listed.setIfInBounds i true) a' w') a w
theorem wpAny_of_S {n : Nat} : ∀ (fuel : Nat) (listed : Array Bool) (a : Act) (w : World), wpAnyS P md ops Q S n fuel listed a w → wpAny P md ops Q fuel listed a w
 | 0, _, _, _, h => h
 | fuel + 1, _, _, _, h => ⟨h.1, fun i hi => wpOp_mono (fun a' w' h' => wpAny_of_S fuel _ a' w' h'.2) (h.2 i hi)⟩
structure TailAt (md : Region.Mode) (ops : Array Oper) (n : Nat) : Prop where
 sink : Region.sinkB md ops n = true
 chain : Region.chainB md ops n = true
 lt : n < ops.size
theorem tailAt {n : Nat} (h : (Region.sinkB md ops n && Region.chainB md ops n && decide (n < ops.size)) = true) : TailAt md ops n := by
 simp only [Bool.and_eq_true, decide_eq_true_eq] at h
 exact ⟨h.1.1, h.1.2, h.2⟩
theorem wpAnyS_first {n i : Nat} {oi : Oper} {v : Value} (T : TailAt md ops n) (hin : i < n) (hi : ops[i]? = some oi) (hsel : ∀ (j : Nat) (o : Oper) cs b, ops[j]? = some o → o.op ≠ .select cs b)
 (hQ : ∀ c a w, Q (.panic c) (a.put oi.dst v) w → Q (.panic c) a w) :
 ∀ (fuel : Nat) (listed : Array Bool) (a : Act) (w : World), HeadInv md ops n listed →
   (∀ j oj, ops[j]? = some oj → j ≠ i → listed.getD j true = false → (∀ e ∈ oj.after, Region.binds md e = true → e.on ≠ i) → oi.apart ops oj = true) →
   i ∈ Region.ready md ops listed → YieldsIf P ops S oi v a → S w →
   wpAnyS P md ops Q S n fuel (listed.setIfInBounds i true) (a.put oi.dst v) w → wpAnyS P md ops Q S n (fuel + 1) listed a w := by
 intro fuel
 induction fuel with
 | zero =>
   intro listed a w inv _ hr hy hS H
   refine ⟨fun h => (by rw [h] at hr; cases hr), fun j hj => ?_⟩
   by_cases hji : j = i
   ·subst hji; exact hy.wpOp hi hS ⟨fun _ => hS, H⟩
   ·have := ready_mono hj hji
    rw [H.1] at this
    cases this
 | succ fuel ih =>
   intro listed a w inv hfree hr hy hS H
   refine ⟨fun h => (by rw [h] at hr; cases hr), fun j hj => ?_⟩
   by_cases hji : j = i
   ·subst hji; exact hy.wpOp hi hS ⟨fun _ => hS, H⟩
   ·have hjn : j < n := by
     rcases Nat.lt_or_ge j n with h | h
     ·exact h
     ·exact absurd hj (tail_waits T.sink T.chain T.lt inv (n - i) i rfl hin (mem_ready.1 hr).1 j h)
    have h1 := H.2 j (ready_mono hj hji)
    obtain ⟨hjun, oj, hoj, hall⟩ := mem_ready.1 hj
    have hnot : ∀ e ∈ oj.after, Region.binds md e = true → e.on ≠ i := fun e he hb heq => by
     have h1 := hall e he hb
     have h0 := (mem_ready.1 hr).1
     rw [heq] at h1
     rcases Nat.lt_or_ge i listed.size with h' | h'
     ·simp [h'] at h0 h1; rw [h0] at h1; cases h1
     ·simp [Array.getElem?_eq_none h'] at h1
    have h2 := wpOp_putIf hoj (hfree j oj hoj hji hjun hnot) (fun cs b => hsel i oi cs b hi) (fun cs b => hsel j oj cs b hoj) hQ hy h1
    have hfree' : ∀ k ok, ops[k]? = some ok → k ≠ i → (listed.setIfInBounds j true).getD k true = false →
     (∀ e ∈ ok.after, Region.binds md e = true → e.on ≠ i) → oi.apart ops ok = true := fun k ok hk hki hun hno => by
     refine hfree k ok hk hki ?_ hno
     by_cases hjk : j = k
     ·subst hjk; exact hjun
     ·rw [getD_set_ne true hjk] at hun; exact hun
    refine wpOp_mono (fun a' w' h3 => ⟨fun _ => h3.2.1 hjn, ih (listed.setIfInBounds j true) a' w' (inv.set hj hjn) hfree' (ready_mono hr (Ne.symm hji)) h3.1 (h3.2.1 hjn) ?_⟩) h2
    rw [Array.setIfInBounds_comm _ _ hji]
    exact h3.2.2
theorem wpAnyS_done {n : Nat} {listed : Array Bool} {a : Act} {w : World} (hr : Region.ready md ops listed = []) (h : Q .normal a w) :
 ∀ fuel, wpAnyS P md ops Q S n fuel listed a w
 | 0 => ⟨hr, h⟩
 | _ + 1 => ⟨fun _ => h, by rw [hr]; simp⟩
theorem wp_region_tail {n id : Nat} {a : Act} {w : World} (hm : P.follows .mixedOrders = true) (hS : S w.drew)
 (h : S w.drew → HeadInv .any ops n (Array.replicate ops.size false) → wpAnyS P .any ops Q S n ops.size (Array.replicate ops.size false) a w.drew) (hn : n < ops.size) : (Code.region id ops true).wp P Q a w :=
 wp_region_any hm (wpAny_of_S _ _ _ _ (h hS ⟨by simp, fun j oj _ hl => (by rw [getD_replicate_false] at hl; cases hl), fun t _ ht => getD_in (by simpa using ht) (getD_replicate_false _ _)⟩))
end
section
variable {P : Program} {L : List Oper} {Q : Exit → Act → World → Prop} {md : Region.Mode} {S : World → Prop} {n : Nat}
theorem takeS (i : Nat) {o : Oper} {v : Value} {fuel : Nat} {listed : Array Bool} {a : Act} {w : World} (T : TailAt md L.toArray n) (inv : HeadInv md L.toArray n listed) (hin : i < n) (hi : L[i]? = some o)
 (hs : Region.noSelect L.toArray = true) (hf : Region.free md L.toArray listed i = true) (hr : (Region.ready md L.toArray listed).contains i = true)
 (hQ : ∀ c a w, Q (.panic c) (a.put o.dst v) w → Q (.panic c) a w) (hw : Region.wanted o (yielded L.toArray a.tmps) = true) (hS : S w)
 (hy : ∀ w, S w → (execOp a.eval o).run P w = .ok (.value v) w)
 (h : HeadInv md L.toArray n (listed.setIfInBounds i true) → wpAnyS P md L.toArray Q S n fuel (listed.setIfInBounds i true) (a.put o.dst v) w) : wpAnyS P md L.toArray Q S n (fuel + 1) listed a w :=
 have hr' : i ∈ Region.ready md L.toArray listed := by simpa using hr
 wpAnyS_first T hin (by simpa using hi) (Region.noSelect_spec hs) hQ fuel listed a w inv (Region.free_spec (by simpa using hi) hf) hr' (.inl ⟨hw, hy⟩) hS (h (inv.set hr' hin))
theorem oneS (i : Nat) {o : Oper} {fuel : Nat} {listed : Array Bool} {a : Act} {w : World} (inv : HeadInv md L.toArray n listed) (hin : i < n) (hi : L[i]? = some o) (hr : Region.ready md L.toArray listed = [i])
 (h : ∀ K' : Act → World → Prop, Shut (∀ a w, S w → (S w → HeadInv md L.toArray n (listed.setIfInBounds i true) → wpAnyS P md L.toArray Q S n fuel (listed.setIfInBounds i true) a w) → K' a w) → if Region.wanted o (yielded L.toArray a.tmps) = true then Oper.wp P o a w K' Q else K' (a.put o.dst undef) w) :
 wpAnyS P md L.toArray Q S n (fuel + 1) listed a w := by
 refine ⟨fun h0 => (by rw [hr] at h0; cases h0), fun j hj => ?_⟩
 rw [hr, List.mem_singleton] at hj
 subst hj
 exact wpOp_step (by simpa using hi) (fun K' hK => h K' (fun a w hS hW => hK a w ⟨fun _ => hS, hW hS (inv.set (by rw [hr]; simp) hin)⟩))
theorem twoS (i j : Nat) {o o' : Oper} {fuel : Nat} {listed : Array Bool} {a : Act} {w : World} (inv : HeadInv md L.toArray n listed) (hin : i < n) (hjn : j < n) (hi : L[i]? = some o) (hj : L[j]? = some o') (hr : Region.ready md L.toArray listed = [i, j])
 (h : ∀ K' : Act → World → Prop, Shut (∀ a w, S w → (S w → HeadInv md L.toArray n (listed.setIfInBounds i true) → wpAnyS P md L.toArray Q S n fuel (listed.setIfInBounds i true) a w) → K' a w) → if Region.wanted o (yielded L.toArray a.tmps) = true then Oper.wp P o a w K' Q else K' (a.put o.dst undef) w)
 (h' : ∀ K' : Act → World → Prop, Shut (∀ a w, S w → (S w → HeadInv md L.toArray n (listed.setIfInBounds j true) → wpAnyS P md L.toArray Q S n fuel (listed.setIfInBounds j true) a w) → K' a w) → if Region.wanted o' (yielded L.toArray a.tmps) = true then Oper.wp P o' a w K' Q else K' (a.put o'.dst undef) w) :
 wpAnyS P md L.toArray Q S n (fuel + 1) listed a w := by
 refine ⟨fun h0 => (by rw [hr] at h0; cases h0), fun k hk => ?_⟩
 rw [hr] at hk
 simp only [List.mem_cons, List.not_mem_nil, or_false] at hk
 rcases hk with rfl | rfl
 ·exact wpOp_step (by simpa using hi) (fun K' hK => h K' (fun a w hS hW => hK a w ⟨fun _ => hS, hW hS (inv.set (by rw [hr]; simp) hin)⟩))
 ·exact wpOp_step (by simpa using hj) (fun K' hK => h' K' (fun a w hS hW => hK a w ⟨fun _ => hS, hW hS (inv.set (by rw [hr]; simp) hjn)⟩))
theorem lastS (i : Nat) {o : Oper} {fuel : Nat} {listed : Array Bool} {a : Act} {w : World} (hi : L[i]? = some o) (hin : n ≤ i) (hr : Region.ready md L.toArray listed = [i])
 (h : ∀ K' : Act → World → Prop, Shut (∀ a w, wpAnyS P md L.toArray Q S n fuel (listed.setIfInBounds i true) a w → K' a w) → if Region.wanted o (yielded L.toArray a.tmps) = true then Oper.wp P o a w K' Q else K' (a.put o.dst undef) w) :
 wpAnyS P md L.toArray Q S n (fuel + 1) listed a w := by
 refine ⟨fun h0 => (by rw [hr] at h0; cases h0), fun j hj => ?_⟩
 rw [hr, List.mem_singleton] at hj
 subst hj
 exact wpOp_step (by simpa using hi) (fun K' hK => h K' (fun a w hW => hK a w ⟨fun h => absurd h (by omega), hW⟩))
end
end Go.Proofs.YtkdhdibjbabgfaaGreatDoor
end
section
namespace Go.Proofs.YtkdhdibjbabgfaaGreatDoor
def kN (x : Nat) : Nat := x % 8
def cN (x : Nat) : Nat := x / 8 % 4
def lnN (x : Nat) : Nat := x / 32 % 64
def mN (x : Nat) : Nat := x / 2048 % 8192
def bN (x : Nat) : Nat := x / 16777216 % 256
def RightN (x : Nat) : Prop := x < 4294967296 ∧ (((kN x = 0 ∨ kN x = 3) ∧ cN x = 0 ∧ lnN x = 0 ∧ mN x = 0 ∧ bN x = 0) ∨
 (kN x = 1 ∧ lnN x = 0 ∧ mN x = 0 ∧ ((cN x = 0 ∧ bN x < 256) ∨ (cN x = 1 ∧ bN x < 16) ∨ (cN x = 2 ∧ bN x < 4))) ∨
 (kN x = 2 ∧ cN x = 0 ∧ lnN x = 0 ∧ bN x = 0 ∧ 1 ≤ mN x ∧ mN x ≤ 8191) ∨ (kN x = 4 ∧ cN x = 0 ∧ bN x = 0 ∧ lnN x < 64 ∧ mN x ≤ 7))
instance (x : Nat) : Decidable (RightN x) := by unfold RightN; infer_instance
def okN (x : Nat) : Bool := decide (RightN x)
theorem okN_t {x : Nat} (h : okN x = true) : RightN x := of_decide_eq_true h
theorem parts_bd (x : Nat) : kN x < 8 ∧ cN x < 4 ∧ lnN x < 64 ∧ mN x < 8192 ∧ bN x < 256 := by
 unfold kN cN lnN mN bN; omega
def stepT (x n : Nat) : Option Nat := if decide (kN x = 3) = decide (0 < n) then some (if kN x = 3 then n - 1 else if kN x = 2 then mN x - 1 else n) else none
def runT (t : List Nat) : Nat → Option Nat
 | 0 => some 0
 | k + 1 => (runT t k).bind (stepT (t.getD k 0))
def rightT (t : List Nat) : Bool := t.all okN && (runT t t.length == some 0)
theorem all_at {t : List Nat} (h : t.all okN = true) {k : Nat} (hk : k < t.length) : okN (t.getD k 0) = true := by
 rw [List.getD_eq_getElem?_getD, List.getElem?_eq_getElem hk]
 exact List.all_eq_true.1 h _ (List.getElem_mem hk)
theorem runT_app (t u : List Nat) : ∀ k, k ≤ t.length → runT (t ++ u) k = runT t k
 | 0, _ => rfl
 | k + 1, hk => by
   simp only [runT]
   rw [runT_app t u k (by omega)]
   congr 2
   simp only [List.getD_eq_getElem?_getD]
   rw [List.getElem?_append_left (by omega)]
theorem runT_app2 (t u : List Nat) (h : runT t t.length = some 0) : ∀ j, runT (t ++ u) (t.length + j) = runT u j
 | 0 => by rw [Nat.add_zero, runT_app t u _ (Nat.le_refl _), h]; rfl
 | j + 1 => by
   rw [← Nat.add_assoc]
   simp only [runT]
   rw [runT_app2 t u h j]
   congr 2
   simp only [List.getD_eq_getElem?_getD]
   rw [List.getElem?_append_right (by omega)]
   congr 2
   omega
theorem rightT_t {t : List Nat} (h : rightT t = true) : t.all okN = true ∧ runT t t.length = some 0 := by
 simp only [rightT, Bool.and_eq_true, beq_iff_eq] at h; exact h
theorem rightT_mk {t : List Nat} (h1 : t.all okN = true) (h2 : runT t t.length = some 0) : rightT t = true := by
 simp only [rightT, Bool.and_eq_true, beq_iff_eq]; exact ⟨h1, h2⟩
theorem rightT_app {t u : List Nat} (h1 : rightT t = true) (h2 : rightT u = true) : rightT (t ++ u) = true := by
 obtain ⟨a1, b1⟩ := rightT_t h1
 obtain ⟨a2, b2⟩ := rightT_t h2
 refine rightT_mk (by rw [List.all_append, a1, a2]; rfl) ?_
 rw [List.length_append, runT_app2 t u b1, b2]
theorem rightT_one {x : Nat} (h : okN x = true) (h2 : ¬ kN x = 2) (h3 : ¬ kN x = 3) : rightT [x] = true := by
 refine rightT_mk (by simp [h]) ?_
 simp [runT, stepT, h2, h3]
theorem runT_huge (x n : Nat) (hk : kN x = 2) (hm : mN x = n + 1) : ∀ j, j ≤ n → runT (x :: List.replicate n 3) (j + 1) = some (n - j)
 | 0, _ => by simp [runT, stepT, hk, hm]
 | j + 1, hj => by
   rw [runT, runT_huge x n hk hm j (by omega)]
   have e : (x :: List.replicate n 3).getD (j + 1) 0 = 3 := by
    simp only [List.getD_eq_getElem?_getD, List.getElem?_cons_succ]
    rw [List.getElem?_replicate, if_pos (by omega)]
    rfl
   rw [e]
   have : kN 3 = 3 := rfl
   simp only [Option.bind_some, stepT, this]
   have h0 : 0 < n - j := by omega
   simp [h0]
   omega
theorem rightT_huge {x n : Nat} (h : okN x = true) (hk : kN x = 2) (hm : mN x = n + 1) : rightT (x :: List.replicate n 3) = true := by
 refine rightT_mk ?_ ?_
 ·rw [List.all_eq_true]
  intro y hy
  rcases List.mem_cons.1 hy with rfl | hy
  ·exact h
  ·have := List.eq_of_mem_replicate hy
   subst this
   decide
 ·have := runT_huge x n hk hm n (Nat.le_refl _)
  rw [List.length_cons, List.length_replicate, this, Nat.sub_self]
abbrev Bl := Nat × Nat × Nat
def mnN (c : Nat) : Nat := if c = 0 then 8 else if c = 1 then 4 else if c = 2 then 2 else 0
def blN (c : Nat) : Nat := if c = 0 then 4 else if c = 1 then 8 else if c = 2 then 16 else 0
def liveL (b m : Nat) : List Nat := (List.range m).filter b.testBit
def blksAt (i x : Nat) : List Bl := if kN x = 1 then (liveL (bN x) (mnN (cN x))).map (fun j => (i, j, blN (cN x))) else if kN x = 2 then [(i, 0, mN x * 32)] else []
def blksFrom : Nat → List Nat → List Bl
 | _, [] => []
 | o, x :: t => blksAt o x ++ blksFrom (o + 1) t
def blksT (t : List Nat) : List Bl := if t.all okN then blksFrom 0 t else []
end Go.Proofs.YtkdhdibjbabgfaaGreatDoor
end
section
namespace Go.Proofs.YtkdhdibjbabgfaaGreatDoor
open Go.RowKit
def SeqTold {α : Type} (F : Fence) (n : Nat) (P : Program) (g : Nat) (lb : Array Value) (encs : α → Array Value) (Kp : World → World → Prop) (T : α → World → Prop) (S Sp : List α → Prop) (N : Nat) (w : World) : Prop :=
 ∀ (l : Nat) (J Jx : List α → World → Prop) (W : World), Below w.heap.size w W → AbidesFrom W.heap.size J → AbidesFrom W.heap.size Jx →
   (∀ pre x W1, J pre W1 → T x W1 → pre.length < N → YieldAt F (n - 1) P l (encs x) W1 fun e W' =>
     (e = .returned (.bool true) ∧ J (pre ++ [x]) W' ∧ Kp W1 W') ∨ (e = .returned (.bool false) ∧ Jx (pre ++ [x]) W')) →
   J [] W → CallsIn F n P g (#[.func (.yield l) #[] #[]] ++ lb) W fun e W' => (∃ v, e = .returned v) ∧ ((∃ xs, S xs ∧ J xs W') ∨ (∃ pre, Sp pre ∧ Jx pre W'))
section
variable {F : Fence} {n : Nat} {P : Program}
def Lp (L D : Nat) (r : Loop) (W : World) : Prop := W.heap[L]? = some (.loop r) ∧ W.heap[D]? = some (.deferred (some []))
theorem Lp.grown {L D : Nat} {r : Loop} {W W' : World} {row : Option Nat} (h : Lp L D r W) (hg : W.grownBy W' row) (hr : ∀ k, row = some k → ∃ o : Obj, W.heap[k]? = some o ∧ o.isWalk = true) : Lp L D r W' :=
 ⟨(grownBy_keeps hg hr h.1 rfl).trans h.1, (grownBy_keeps hg hr h.2 rfl).trans h.2⟩
theorem Lp.turn {L D : Nat} {r : Loop} {W : World} (h : Lp L D r W) (hne : L ≠ D) (r' : Loop) : Lp L D r' (W.putObj L (.loop r')) :=
 ⟨World.putObj_heap_same (Array.getElem?_eq_some_iff.1 h.1).1, (World.putObj_heap_other hne.symm).trans h.2⟩
theorem Lp.from {B L D : Nat} {r : Loop} {W W' : World} (h : Lp L D r W) (hk : KeepsFrom B W W') (hL : B ≤ L) (hD : B ≤ D) : Lp L D r W' := ⟨hk.same _ _ hL h.1 rfl, hk.same _ _ hD h.2 rfl⟩
theorem wpIn_rangeFunc_told {α : Type} {g : Operand} {ps : Array Tmp} {assign body : Code} {Q : Exit → Act → World → Prop} {a : Act} {w : World}
 (hro : F.round = none) (h1 : 1 ≤ n) {gf : Nat} {lb : Array Value} (hg : a.eval g = .func (.func gf) #[] lb) (hFg : F.fn gf) (eg : ∀ args w, (callFunc gf args).run P w = .ok (.enter gf args) w)
 {encs : α → Array Value} {Kp : World → World → Prop} {T : α → World → Prop} {S Sp : List α → Prop} {N : Nat} {w0 : World} (hseq : SeqTold F (n - 1) P gf lb encs Kp T S Sp N w0)
 (hKt : ∀ {A B C : World}, Kp A B → Kp B C → Kp A C) (hKb : ∀ (W : World) (l : Nat) (o o' : Obj), w.heap.size ≤ l → W.heap[l]? = some o → o.isCells = false → o.isWalk = false → Kp W (W.putObj l o')) (hb0 : Below w0.heap.size w0 w) (hps : ∀ x, (encs x).size = ps.size)
 (I : List α → World → Prop) (Ix : Code → List α → World → Prop) (hI : OwnFrom w.heap.size I) (hIx : ∀ c, OwnFrom w.heap.size (Ix c)) (h0 : I [] w) (Ax : α → Act → World → Prop) (hAx : ∀ x a', OwnFrom w.heap.size (fun (_ : Unit) W => Ax x a' W))
 (hassign : ∀ (l : Nat) (pre : List α) (x : α) (W : World) (K : Act → World → Prop), I pre W → T x W → (∀ a' W', KeepsFrom w.heap.size W W' → Kp W W' → I pre W' → Ax x a' W' → K a' W') →
   assign.wpIn (F.inRound l) (n - 1 - 1) P (Exit.then K (fun _ _ _ => False)) { tmps := (ps.zip (encs x)).foldl (fun t (p, v) => t.setIfInBounds p v) a.tmps, defers := [] } W)
 (hbody : ∀ (l : Nat) (pre : List α) (x : α) (a' : Act) (W : World), I pre W → Ax x a' W → pre.length < N → body.wpIn (F.inRound l) (n - 1 - 1) P (ownPostG w.heap.size Kp I Ix (pre ++ [x]) W) a' W)
 (hdone : ∀ (D : Nat) (xs : List α) (W : World), w.heap.size ≤ D → S xs → I xs W → W.heap[D]? = some (.deferred (some [])) → Q .normal { a with defers := { target := .collected D, args := #[] } :: a.defers } W)
 (hstop : ∀ (D : Nat) (c : Code) (pre : List α) (W : World), w.heap.size ≤ D → Sp pre → Ix c pre W → W.heap[D]? = some (.deferred (some [])) → c.wpIn F n P Q { a with defers := { target := .collected D, args := #[] } :: a.defers } W) :
 (Code.rangeFunc g ps assign body).wpIn F n P Q a w := by
 refine wpIn_rangeFunc ?_
 intro fn hfn
 rw [hro]
 obtain ⟨R, hR⟩ : ∃ R : LoopState → Option Code → Loop, R = fun st pe => { state := st, pending := pe, fn, tmps := a.tmps, params := ps, assign, body, defers := w.heap.size } := ⟨_, rfl⟩
 obtain ⟨W1, hW1⟩ : ∃ W1, W1 = (w.alloc (.deferred (some []))).alloc (.loop (R .ready none)) := ⟨_, rfl⟩
 have hen : (Instr.enterLoop fn a.tmps ps assign body none).run P w = .ok (w.heap.size + 1, [{ target := .collected w.heap.size, args := #[] }]) W1 := by
  rw [hW1, hR]; exact run_enterLoop_outer _ _ _ _ _
 have hlp : Lp (w.heap.size + 1) w.heap.size (R .ready none) W1 := by
  have q := World.alloc_heap_new (w.alloc (.deferred (some []))) (.loop (R .ready none))
  rw [World.size_alloc] at q
  rw [hW1]
  exact ⟨q, (Below.heap_alloc _ _ _ (by simp)).trans (World.alloc_heap_new w _)⟩
 have hi1 : I [] W1 := by rw [hW1]; exact hI.alloc _ (hI.alloc _ h0)
 have hb1 : Below w0.heap.size w0 W1 := by rw [hW1]; exact hb0.trans (((bZ w _).alloc (by simp) _).mono hb0.size)
 have hs1 : w.heap.size ≤ W1.heap.size := by rw [hW1]; simp; omega
 have hne : w.heap.size + 1 ≠ w.heap.size := by omega
 clear hW1
 refine ⟨_, _, W1, { target := .fn (.func gf) lb, args := #[.func (.yield (w.heap.size + 1)) #[] #[]] }, W1, gf, #[.func (.yield (w.heap.size + 1)) #[] #[]] ++ lb, W1, hen,
  by simp only [resolve, hg]; simp [go_sem], fun f' hf' => by simp [Target.leads] at hf'; subst hf'; exact hFg, by simp [invoke, go_sem, eg], fun _ => h1, ?_⟩
 clear hen
 have hrow : ∀ {A : World} {row : Option Nat}, (∀ r, row = some r → W1.heap.size ≤ r ∧ ∃ o : Obj, A.heap[r]? = some o ∧ o.isWalk = true) → (∀ r, row = some r → w.heap.size ≤ r ∧ ∃ o : Obj, A.heap[r]? = some o ∧ o.isCells = false) := fun h r e => by
  obtain ⟨q, o, ho, hw⟩ := h r e
  exact ⟨Nat.le_trans hs1 q, o, ho, Obj.not_cells_of_walk hw⟩
 have hend : ∀ (j : Option Code) (W3 : World), Lp (w.heap.size + 1) w.heap.size { R .ready none with state := .busy } W3 →
  (Instr.endRound (w.heap.size + 1) j).run P W3 = .ok (.bool j.isNone) (W3.putObj (w.heap.size + 1) (.loop (R (if j.isNone then .ready else .done) j))) := fun j W3 h => by
  have := run_endRound (P := P) j h.1
  rw [hR] at this ⊢
  exact this
 refine (hseq (w.heap.size + 1) (fun pre W => I pre W ∧ Lp (w.heap.size + 1) w.heap.size (R .ready none) W) (fun pre W => ∃ c, Ix c pre W ∧ Lp (w.heap.size + 1) w.heap.size (R .done (some c)) W) W1 hb1
  (fun s A B row hs hg hr => ⟨hI s A B row hs.1 hg (hrow hr), hs.2.grown hg (fun k e => (hr k e).2)⟩)
  (fun s A B row ⟨c, hc, hl⟩ hg hr => ⟨c, hIx c s A B row hc hg (hrow hr), hl.grown hg (fun k e => (hr k e).2)⟩) ?_ ⟨hi1, hlp⟩).mono ?_
 ·rintro pre x W ⟨hi, hl⟩ hT hlen
  have hy := run_yield (P := P) (args := encs x) hl.1 (by rw [hR]; exact hps x)
  rw [hR] at hy
  refine ⟨fn, _, assign, body, hy, roundIn_of_wpIn hfn (hassign _ pre x W _ hi hT ?_)⟩
  intro a' Wa hk hkp hia hax
  have hla := hl.from hk (by omega) (Nat.le_refl _)
  have hlb := hla.turn hne { R .ready none with state := .busy }
  have hkb := hKt hkp (hKb Wa _ _ (.loop { R .ready none with state := .busy }) (by omega) hla.1 rfl rfl)
  refine ⟨_, run_beginRound hla.1 (by rw [hR]), wpIn_mono (hbody _ pre x a' _ (hI.putObj _ hia (by omega) hla.1 rfl) ((hAx x a').putObj (s := ()) _ hax (by omega) hla.1 rfl) hlen) ?_⟩
  rintro e a3 W3 hp
  have stop : ∀ c, KeepsFrom w.heap.size (Wa.putObj (w.heap.size + 1) (.loop { R .ready none with state := .busy })) W3 ∧ Ix c (pre ++ [x]) W3 →
   Ix c (pre ++ [x]) (W3.putObj (w.heap.size + 1) (.loop (R .done (some c)))) ∧ Lp (w.heap.size + 1) w.heap.size (R .done (some c)) (W3.putObj (w.heap.size + 1) (.loop (R .done (some c)))) := fun c h => by
   have h3 := hlb.from h.1 (by omega) (Nat.le_refl _)
   exact ⟨(hIx c).putObj _ h.2 (by omega) h3.1 rfl, h3.turn hne _⟩
  cases e with
  | normal =>
    obtain ⟨hk3, hkp3, hi3⟩ := hp
    have h3 := hlb.from hk3 (by omega) (Nat.le_refl _)
    exact ⟨_, _, hend none W3 h3, .inl ⟨rfl, ⟨hI.putObj _ hi3 (by omega) h3.1 rfl, h3.turn hne _⟩, hKt hkb (hKt hkp3 (hKb _ _ _ _ (by omega) h3.1 rfl rfl))⟩⟩
  | ret => exact ⟨_, _, hend (some .ret) W3 (hlb.from hp.1 (by omega) (Nat.le_refl _)), .inr ⟨rfl, .ret, stop _ hp⟩⟩
  | exit id => exact ⟨_, _, hend (some (.exit id)) W3 (hlb.from hp.1 (by omega) (Nat.le_refl _)), .inr ⟨rfl, .exit id, stop _ hp⟩⟩
  | goto t => exact ⟨_, _, hend (some (.goto t)) W3 (hlb.from hp.1 (by omega) (Nat.le_refl _)), .inr ⟨rfl, .goto t, stop _ hp⟩⟩
  | panic ch => exact hp.elim
  | outgrown => exact hp.elim
 ·rintro e W2 ⟨⟨v, rfl⟩, (⟨xs, hS, hi, hl⟩ | ⟨pre, hSp, c, hi, hl⟩)⟩
  ·have q := run_endLoop (P := P) hl.1 (by rw [hR]; simp)
   rw [hR] at q
   exact ⟨none, _, q, hdone _ xs _ (Nat.le_refl _) hS (hI.putObj _ hi (by omega) hl.1 rfl) ((World.putObj_heap_other (by omega)).trans hl.2)⟩
  ·have q := run_endLoop (P := P) hl.1 (by rw [hR]; simp)
   rw [hR] at q
   exact ⟨some c, _, q, hstop _ c pre _ (Nat.le_refl _) hSp ((hIx c).putObj _ hi (by omega) hl.1 rfl) ((World.putObj_heap_other (by omega)).trans hl.2)⟩
end
end Go.Proofs.YtkdhdibjbabgfaaGreatDoor
end
section
namespace Go.Proofs.YtkdhdibjbabgfaaGreatDoor
abbrev Sp := Int × Int
def bothS (s x : Sp) : Sp := (min s.1 x.1, max (s.1 + s.2) (x.1 + x.2) - min s.1 x.1)
def totS (l : List Sp) : Int := (l.map (·.2)).sum
theorem totS_nil : totS [] = 0 := rfl
theorem totS_cons (x : Sp) (l : List Sp) : totS (x :: l) = x.2 + totS l := by unfold totS; simp
theorem totS_app (l m : List Sp) : totS (l ++ m) = totS l + totS m := by unfold totS; simp
end Go.Proofs.YtkdhdibjbabgfaaGreatDoor
end
