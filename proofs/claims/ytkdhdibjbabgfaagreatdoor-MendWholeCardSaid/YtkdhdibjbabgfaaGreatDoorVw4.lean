/-
  Part of the proof of MendWhole.
-/
import Derived.Deep.RegionHeld3
import Derived.Handy
import Derived.Test.YtkdhdibjbabgfaaGreatDoorVw0
set_option linter.unusedVariables false
set_option linter.unusedSimpArgs false
section
namespace Go.Proofs.YtkdhdibjbabgfaaGreatDoor
section
variable {P : Program} {L : List Oper} {Q : Exit → Act → World → Prop} {md : Region.Mode} {S : World → Prop}
theorem takeL (i : Nat) {o : Oper} {v : Value} {fuel : Nat} {listed : Array Bool} {a : Act} {w : World} (hi : L[i]? = some o)
 (hs : Region.noSelect L.toArray = true) (hf : Region.free md L.toArray listed i = true) (hr : (Region.ready md L.toArray listed).contains i = true)
 (hQ : ∀ c a w, Q (.panic c) (a.put o.dst v) w → Q (.panic c) a w) (hw : Region.wanted o (yielded L.toArray a.tmps) = true) (hS : S w)
 (hy : ∀ w, S w → (execOp a.eval o).run P w = .ok (.value v) w)
 (h : wpAnyH P md L.toArray Q S fuel (listed.setIfInBounds i true) (a.put o.dst v) w) : wpAnyH P md L.toArray Q S (fuel + 1) listed a w :=
 wpAnyH_take (by simpa using hi) hs hf hr hQ (.inl ⟨hw, hy⟩) hS h
theorem idleL (i : Nat) {o : Oper} {fuel : Nat} {listed : Array Bool} {a : Act} {w : World} (hi : L[i]? = some o)
 (hs : Region.noSelect L.toArray = true) (hf : Region.free md L.toArray listed i = true) (hr : (Region.ready md L.toArray listed).contains i = true)
 (hQ : ∀ c a w, Q (.panic c) (a.put o.dst undef) w → Q (.panic c) a w) (hw : Region.wanted o (yielded L.toArray a.tmps) = false) (hS : S w)
 (h : wpAnyH P md L.toArray Q S fuel (listed.setIfInBounds i true) (a.put o.dst undef) w) : wpAnyH P md L.toArray Q S (fuel + 1) listed a w :=
 wpAnyH_take (by simpa using hi) hs hf hr hQ (.inr ⟨hw, rfl⟩) hS h
theorem oneL (i : Nat) {o : Oper} {fuel : Nat} {listed : Array Bool} {a : Act} {w : World} (hi : L[i]? = some o) (hr : Region.ready md L.toArray listed = [i])
 (h : ∀ K' : Act → World → Prop, Shut (∀ a w, S w → (S w → wpAnyH P md L.toArray Q S fuel (listed.setIfInBounds i true) a w) → K' a w) → if Region.wanted o (yielded L.toArray a.tmps) = true then Oper.wp P o a w K' Q else K' (a.put o.dst undef) w) :
 wpAnyH P md L.toArray Q S (fuel + 1) listed a w :=
 wpAnyH_ready hr (by simp) (AllReadyH.cons (by simpa using hi) h AllReadyH.nil)
theorem twoL (i j : Nat) {o o' : Oper} {fuel : Nat} {listed : Array Bool} {a : Act} {w : World} (hi : L[i]? = some o) (hj : L[j]? = some o') (hr : Region.ready md L.toArray listed = [i, j])
 (h : ∀ K' : Act → World → Prop, Shut (∀ a w, S w → (S w → wpAnyH P md L.toArray Q S fuel (listed.setIfInBounds i true) a w) → K' a w) → if Region.wanted o (yielded L.toArray a.tmps) = true then Oper.wp P o a w K' Q else K' (a.put o.dst undef) w)
 (h' : ∀ K' : Act → World → Prop, Shut (∀ a w, S w → (S w → wpAnyH P md L.toArray Q S fuel (listed.setIfInBounds j true) a w) → K' a w) → if Region.wanted o' (yielded L.toArray a.tmps) = true then Oper.wp P o' a w K' Q else K' (a.put o'.dst undef) w) :
 wpAnyH P md L.toArray Q S (fuel + 1) listed a w :=
 wpAnyH_ready hr (by simp) (AllReadyH.cons (by simpa using hi) h (AllReadyH.cons (by simpa using hj) h' AllReadyH.nil))
end
end Go.Proofs.YtkdhdibjbabgfaaGreatDoor
end
section
namespace Go.Proofs.YtkdhdibjbabgfaaGreatDoor
def kN (x : Nat) : Nat := x % 8
def cN (x : Nat) : Nat := x / 8 % 4
def lnN (x : Nat) : Nat := x / 32 % 64
def mN (x : Nat) : Nat := x / 2048 % 8192
def bN (x : Nat) : Nat := x / 16777216 % 256
def RightN (x : Nat) : Prop := x < 4294967296 ∧ (((kN x = 0 ∨ kN x = 3) ∧ cN x = 0 ∧ lnN x = 0 ∧ mN x = 0 ∧ bN x = 0) ∨
 (kN x = 1 ∧ lnN x = 0 ∧ mN x = 0 ∧ ((cN x = 0 ∧ bN x < 256) ∨ (cN x = 1 ∧ bN x < 16) ∨ (cN x = 2 ∧ bN x < 4))) ∨
 (kN x = 2 ∧ cN x = 0 ∧ lnN x = 0 ∧ bN x = 0 ∧ 1 ≤ mN x ∧ mN x ≤ 8191) ∨ (kN x = 4 ∧ cN x = 0 ∧ bN x = 0 ∧ lnN x < 64 ∧ mN x ≤ 7))
instance (x : Nat) : Decidable (RightN x) := by unfold RightN; infer_instance
def okN (x : Nat) : Bool := decide (RightN x)
theorem okN_t {x : Nat} (h : okN x = true) : RightN x := of_decide_eq_true h
theorem parts_bd (x : Nat) : kN x < 8 ∧ cN x < 4 ∧ lnN x < 64 ∧ mN x < 8192 ∧ bN x < 256 := by
 unfold kN cN lnN mN bN; omega
def stepT (x n : Nat) : Option Nat := if decide (kN x = 3) = decide (0 < n) then some (if kN x = 3 then n - 1 else if kN x = 2 then mN x - 1 else n) else none
def runT (t : List Nat) : Nat → Option Nat
 | 0 => some 0
 | k + 1 => (runT t k).bind (stepT (t.getD k 0))
def rightT (t : List Nat) : Bool := t.all okN && (runT t t.length == some 0)
theorem all_at {t : List Nat} (h : t.all okN = true) {k : Nat} (hk : k < t.length) : okN (t.getD k 0) = true := by
 rw [List.getD_eq_getElem?_getD, List.getElem?_eq_getElem hk]
 exact List.all_eq_true.1 h _ (List.getElem_mem hk)
theorem runT_app (t u : List Nat) : ∀ k, k ≤ t.length → runT (t ++ u) k = runT t k
 | 0, _ => rfl
 | k + 1, hk => by
   simp only [runT]
   rw [runT_app t u k (by omega)]
   congr 2
   simp only [List.getD_eq_getElem?_getD]
   rw [List.getElem?_append_left (by omega)]
theorem runT_app2 (t u : List Nat) (h : runT t t.length = some 0) : ∀ j, runT (t ++ u) (t.length + j) = runT u j
 | 0 => by rw [Nat.add_zero, runT_app t u _ (Nat.le_refl _), h]; rfl
 | j + 1 => by
   rw [← Nat.add_assoc]
   simp only [runT]
   rw [runT_app2 t u h j]
   congr 2
   simp only [List.getD_eq_getElem?_getD]
   rw [List.getElem?_append_right (by omega)]
   congr 2
   omega
theorem rightT_t {t : List Nat} (h : rightT t = true) : t.all okN = true ∧ runT t t.length = some 0 := by
 simp only [rightT, Bool.and_eq_true, beq_iff_eq] at h; exact h
theorem rightT_mk {t : List Nat} (h1 : t.all okN = true) (h2 : runT t t.length = some 0) : rightT t = true := by
 simp only [rightT, Bool.and_eq_true, beq_iff_eq]; exact ⟨h1, h2⟩
theorem rightT_app {t u : List Nat} (h1 : rightT t = true) (h2 : rightT u = true) : rightT (t ++ u) = true := by
 obtain ⟨a1, b1⟩ := rightT_t h1
 obtain ⟨a2, b2⟩ := rightT_t h2
 refine rightT_mk (by rw [List.all_append, a1, a2]; rfl) ?_
 rw [List.length_append, runT_app2 t u b1, b2]
theorem rightT_one {x : Nat} (h : okN x = true) (h2 : ¬ kN x = 2) (h3 : ¬ kN x = 3) : rightT [x] = true := by
 refine rightT_mk (by simp [h]) ?_
 simp [runT, stepT, h2, h3]
theorem runT_huge (x n : Nat) (hk : kN x = 2) (hm : mN x = n + 1) : ∀ j, j ≤ n → runT (x :: List.replicate n 3) (j + 1) = some (n - j)
 | 0, _ => by simp [runT, stepT, hk, hm]
 | j + 1, hj => by
   rw [runT, runT_huge x n hk hm j (by omega)]
   have e : (x :: List.replicate n 3).getD (j + 1) 0 = 3 := by
    simp only [List.getD_eq_getElem?_getD, List.getElem?_cons_succ]
    rw [List.getElem?_replicate, if_pos (by omega)]
    rfl
   rw [e]
   have : kN 3 = 3 := rfl
   simp only [Option.bind_some, stepT, this]
   have h0 : 0 < n - j := by omega
   simp [h0]
   omega
theorem rightT_huge {x n : Nat} (h : okN x = true) (hk : kN x = 2) (hm : mN x = n + 1) : rightT (x :: List.replicate n 3) = true := by
 refine rightT_mk ?_ ?_
 ·rw [List.all_eq_true]
  intro y hy
  rcases List.mem_cons.1 hy with rfl | hy
  ·exact h
  ·have := List.eq_of_mem_replicate hy
   subst this
   decide
 ·have := runT_huge x n hk hm n (Nat.le_refl _)
  rw [List.length_cons, List.length_replicate, this, Nat.sub_self]
abbrev Bl := Nat × Nat × Nat
def mnN (c : Nat) : Nat := if c = 0 then 8 else if c = 1 then 4 else if c = 2 then 2 else 0
def blN (c : Nat) : Nat := if c = 0 then 4 else if c = 1 then 8 else if c = 2 then 16 else 0
def liveL (b m : Nat) : List Nat := (List.range m).filter b.testBit
def blksAt (i x : Nat) : List Bl := if kN x = 1 then (liveL (bN x) (mnN (cN x))).map (fun j => (i, j, blN (cN x))) else if kN x = 2 then [(i, 0, mN x * 32)] else []
def blksFrom : Nat → List Nat → List Bl
 | _, [] => []
 | o, x :: t => blksAt o x ++ blksFrom (o + 1) t
def blksT (t : List Nat) : List Bl := if t.all okN then blksFrom 0 t else []
end Go.Proofs.YtkdhdibjbabgfaaGreatDoor
end
section
namespace Go.Proofs.YtkdhdibjbabgfaaGreatDoor
abbrev Sp := Int × Int
def bothS (s x : Sp) : Sp := (min s.1 x.1, max (s.1 + s.2) (x.1 + x.2) - min s.1 x.1)
def totS (l : List Sp) : Int := (l.map (·.2)).sum
theorem totS_nil : totS [] = 0 := rfl
theorem totS_cons (x : Sp) (l : List Sp) : totS (x :: l) = x.2 + totS l := by unfold totS; simp
theorem totS_app (l m : List Sp) : totS (l ++ m) = totS l + totS m := by unfold totS; simp
end Go.Proofs.YtkdhdibjbabgfaaGreatDoor
end
