/-
  A range over a function whose iterator tells the body something of each element and of the world in which it comes (T): what an own invariant cannot learn otherwise.
-/
import Derived.RangeFuncNested
import Derived.RangeFuncBound
import Derived.RangeFuncCalls
import Derived.RangeFuncLeaves
import Derived.RangeFuncFrom
import Derived.RangeFuncWrites
import Derived.RangeFuncBox
set_option linter.unusedVariables false
namespace Go.Proofs.YtnjifmecaeagaaaDoor
open Go.RowKit

/-- the iterator calls its yield only where T holds of the element -/
def SeqTold {α : Type} (F : Fence) (n : Nat) (P : Program) (g : Nat) (lb : Array Value) (encs : α → Array Value) (Kp : World → World → Prop) (T : α → World → Prop) (S Sp : List α → Prop) (N : Nat) (w : World) : Prop :=
  ∀ (l : Nat) (J Jx : List α → World → Prop) (W : World), Below w.heap.size w W → AbidesFrom W.heap.size J → AbidesFrom W.heap.size Jx →
    (∀ pre x W1, J pre W1 → T x W1 → pre.length < N → YieldAt F (n - 1) P l (encs x) W1 fun e W' =>
      (e = .returned (.bool true) ∧ J (pre ++ [x]) W' ∧ Kp W1 W') ∨ (e = .returned (.bool false) ∧ Jx (pre ++ [x]) W')) →
    J [] W → CallsIn F n P g (#[.func (.yield l) #[] #[]] ++ lb) W fun e W' => (∃ v, e = .returned v) ∧ ((∃ xs, S xs ∧ J xs W') ∨ (∃ pre, Sp pre ∧ Jx pre W'))

section
variable {F : Fence} {n : Nat} {P : Program}
/-- a loop's two blocks: its record and the calls that its rounds put off -/
def Lp (L D : Nat) (r : Loop) (W : World) : Prop := W.heap[L]? = some (.loop r) ∧ W.heap[D]? = some (.deferred (some []))
theorem Lp.grown {L D : Nat} {r : Loop} {W W' : World} {row : Option Nat} (h : Lp L D r W) (hg : W.grownBy W' row) (hr : ∀ k, row = some k → ∃ o : Obj, W.heap[k]? = some o ∧ o.isWalk = true) : Lp L D r W' :=
  ⟨(grownBy_keeps hg hr h.1 rfl).trans h.1, (grownBy_keeps hg hr h.2 rfl).trans h.2⟩
theorem Lp.turn {L D : Nat} {r : Loop} {W : World} (h : Lp L D r W) (hne : L ≠ D) (r' : Loop) : Lp L D r' (W.putObj L (.loop r')) :=
  ⟨World.putObj_heap_same (Array.getElem?_eq_some_iff.1 h.1).1, (World.putObj_heap_other hne.symm).trans h.2⟩
theorem Lp.from {B L D : Nat} {r : Loop} {W W' : World} (h : Lp L D r W) (hk : KeepsFrom B W W') (hL : B ≤ L) (hD : B ≤ D) : Lp L D r W' := ⟨hk.same _ _ hL h.1 rfl, hk.same _ _ hD h.2 rfl⟩

theorem wpIn_rangeFunc_told {α : Type} {g : Operand} {ps : Array Tmp} {assign body : Code} {Q : Exit → Act → World → Prop} {a : Act} {w : World}
    (hro : F.round = none) (h1 : 1 ≤ n) {gf : Nat} {lb : Array Value} (hg : a.eval g = .func (.func gf) #[] lb) (hFg : F.fn gf) (eg : ∀ args w, (callFunc gf args).run P w = .ok (.enter gf args) w)
    {encs : α → Array Value} {Kp : World → World → Prop} {T : α → World → Prop} {S Sp : List α → Prop} {N : Nat} {w0 : World} (hseq : SeqTold F (n - 1) P gf lb encs Kp T S Sp N w0)
    (hKt : ∀ {A B C : World}, Kp A B → Kp B C → Kp A C) (hKb : ∀ (W : World) (l : Nat) (o o' : Obj), w.heap.size ≤ l → W.heap[l]? = some o → o.isCells = false → o.isWalk = false → Kp W (W.putObj l o')) (hb0 : Below w0.heap.size w0 w) (hps : ∀ x, (encs x).size = ps.size)
    (I : List α → World → Prop) (Ix : Code → List α → World → Prop) (hI : OwnFrom w.heap.size I) (hIx : ∀ c, OwnFrom w.heap.size (Ix c)) (h0 : I [] w) (Ax : α → Act → World → Prop) (hAx : ∀ x a', OwnFrom w.heap.size (fun (_ : Unit) W => Ax x a' W))
    (hassign : ∀ (l : Nat) (pre : List α) (x : α) (W : World) (K : Act → World → Prop), I pre W → T x W → (∀ a' W', KeepsFrom w.heap.size W W' → Kp W W' → I pre W' → Ax x a' W' → K a' W') →
      assign.wpIn (F.inRound l) (n - 1 - 1) P (Exit.then K (fun _ _ _ => False)) { tmps := (ps.zip (encs x)).foldl (fun t (p, v) => t.setIfInBounds p v) a.tmps, defers := [] } W)
    (hbody : ∀ (l : Nat) (pre : List α) (x : α) (a' : Act) (W : World), I pre W → Ax x a' W → pre.length < N → body.wpIn (F.inRound l) (n - 1 - 1) P (ownPostG w.heap.size Kp I Ix (pre ++ [x]) W) a' W)
    (hdone : ∀ (D : Nat) (xs : List α) (W : World), w.heap.size ≤ D → S xs → I xs W → W.heap[D]? = some (.deferred (some [])) → Q .normal { a with defers := { target := .collected D, args := #[] } :: a.defers } W)
    (hstop : ∀ (D : Nat) (c : Code) (pre : List α) (W : World), w.heap.size ≤ D → Sp pre → Ix c pre W → W.heap[D]? = some (.deferred (some [])) → c.wpIn F n P Q { a with defers := { target := .collected D, args := #[] } :: a.defers } W) :
    (Code.rangeFunc g ps assign body).wpIn F n P Q a w := by
  refine wpIn_rangeFunc ?_
  intro fn hfn
  rw [hro]
  obtain ⟨R, hR⟩ : ∃ R : LoopState → Option Code → Loop, R = fun st pe => { state := st, pending := pe, fn, tmps := a.tmps, params := ps, assign, body, defers := w.heap.size } := ⟨_, rfl⟩
  obtain ⟨W1, hW1⟩ : ∃ W1, W1 = (w.alloc (.deferred (some []))).alloc (.loop (R .ready none)) := ⟨_, rfl⟩
  have hen : (Instr.enterLoop fn a.tmps ps assign body none).run P w = .ok (w.heap.size + 1, [{ target := .collected w.heap.size, args := #[] }]) W1 := by
    rw [hW1, hR]; exact run_enterLoop_outer _ _ _ _ _
  have hlp : Lp (w.heap.size + 1) w.heap.size (R .ready none) W1 := by
    have q := World.alloc_heap_new (w.alloc (.deferred (some []))) (.loop (R .ready none))
    rw [World.size_alloc] at q
    rw [hW1]
    exact ⟨q, (Below.heap_alloc _ _ _ (by simp)).trans (World.alloc_heap_new w _)⟩
  have hi1 : I [] W1 := by rw [hW1]; exact hI.alloc _ (hI.alloc _ h0)
  have hb1 : Below w0.heap.size w0 W1 := by rw [hW1]; exact hb0.trans ((((Below.refl w.heap.size w).alloc (Nat.le_refl _) _).alloc (by simp) _).mono hb0.size)
  have hs1 : w.heap.size ≤ W1.heap.size := by rw [hW1]; simp; omega
  have hne : w.heap.size + 1 ≠ w.heap.size := by omega
  clear hW1
  refine ⟨_, _, W1, { target := .fn (.func gf) lb, args := #[.func (.yield (w.heap.size + 1)) #[] #[]] }, W1, gf, #[.func (.yield (w.heap.size + 1)) #[] #[]] ++ lb, W1, hen,
    by simp only [resolve, hg]; simp [go_sem], fun f' hf' => by simp [Target.leads] at hf'; subst hf'; exact hFg, by simp [invoke, go_sem, eg], fun _ => h1, ?_⟩
  clear hen
  have hrow : ∀ {A : World} {row : Option Nat}, (∀ r, row = some r → W1.heap.size ≤ r ∧ ∃ o : Obj, A.heap[r]? = some o ∧ o.isWalk = true) → (∀ r, row = some r → w.heap.size ≤ r ∧ ∃ o : Obj, A.heap[r]? = some o ∧ o.isCells = false) := fun h r e => by
    obtain ⟨q, o, ho, hw⟩ := h r e
    exact ⟨Nat.le_trans hs1 q, o, ho, Obj.not_cells_of_walk hw⟩
  have hend : ∀ (j : Option Code) (W3 : World), Lp (w.heap.size + 1) w.heap.size { R .ready none with state := .busy } W3 →
      (Instr.endRound (w.heap.size + 1) j).run P W3 = .ok (.bool j.isNone) (W3.putObj (w.heap.size + 1) (.loop (R (if j.isNone then .ready else .done) j))) := fun j W3 h => by
    have := run_endRound (P := P) j h.1
    rw [hR] at this ⊢
    exact this
  refine (hseq (w.heap.size + 1) (fun pre W => I pre W ∧ Lp (w.heap.size + 1) w.heap.size (R .ready none) W) (fun pre W => ∃ c, Ix c pre W ∧ Lp (w.heap.size + 1) w.heap.size (R .done (some c)) W) W1 hb1
    (fun s A B row hs hg hr => ⟨hI s A B row hs.1 hg (hrow hr), hs.2.grown hg (fun k e => (hr k e).2)⟩)
    (fun s A B row ⟨c, hc, hl⟩ hg hr => ⟨c, hIx c s A B row hc hg (hrow hr), hl.grown hg (fun k e => (hr k e).2)⟩) ?_ ⟨hi1, hlp⟩).mono ?_
  · rintro pre x W ⟨hi, hl⟩ hT hlen
    have hy := run_yield (P := P) (args := encs x) hl.1 (by rw [hR]; exact hps x)
    rw [hR] at hy
    refine ⟨fn, _, assign, body, hy, roundIn_of_wpIn hfn (hassign _ pre x W _ hi hT ?_)⟩
    intro a' Wa hk hkp hia hax
    have hla := hl.from hk (by omega) (Nat.le_refl _)
    have hlb := hla.turn hne { R .ready none with state := .busy }
    have hkb := hKt hkp (hKb Wa _ _ (.loop { R .ready none with state := .busy }) (by omega) hla.1 rfl rfl)
    refine ⟨_, run_beginRound hla.1 (by rw [hR]), wpIn_mono (hbody _ pre x a' _ (hI.putObj _ hia (by omega) hla.1 rfl) ((hAx x a').putObj (s := ()) _ hax (by omega) hla.1 rfl) hlen) ?_⟩
    rintro e a3 W3 hp
    have stop : ∀ c, KeepsFrom w.heap.size (Wa.putObj (w.heap.size + 1) (.loop { R .ready none with state := .busy })) W3 ∧ Ix c (pre ++ [x]) W3 →
        Ix c (pre ++ [x]) (W3.putObj (w.heap.size + 1) (.loop (R .done (some c)))) ∧ Lp (w.heap.size + 1) w.heap.size (R .done (some c)) (W3.putObj (w.heap.size + 1) (.loop (R .done (some c)))) := fun c h => by
      have h3 := hlb.from h.1 (by omega) (Nat.le_refl _)
      exact ⟨(hIx c).putObj _ h.2 (by omega) h3.1 rfl, h3.turn hne _⟩
    cases e with
    | normal =>
      obtain ⟨hk3, hkp3, hi3⟩ := hp
      have h3 := hlb.from hk3 (by omega) (Nat.le_refl _)
      exact ⟨_, _, hend none W3 h3, .inl ⟨rfl, ⟨hI.putObj _ hi3 (by omega) h3.1 rfl, h3.turn hne _⟩, hKt hkb (hKt hkp3 (hKb _ _ _ _ (by omega) h3.1 rfl rfl))⟩⟩
    | ret => exact ⟨_, _, hend (some .ret) W3 (hlb.from hp.1 (by omega) (Nat.le_refl _)), .inr ⟨rfl, .ret, stop _ hp⟩⟩
    | exit id => exact ⟨_, _, hend (some (.exit id)) W3 (hlb.from hp.1 (by omega) (Nat.le_refl _)), .inr ⟨rfl, .exit id, stop _ hp⟩⟩
    | goto t => exact ⟨_, _, hend (some (.goto t)) W3 (hlb.from hp.1 (by omega) (Nat.le_refl _)), .inr ⟨rfl, .goto t, stop _ hp⟩⟩
    | panic ch => exact hp.elim
    | outgrown => exact hp.elim
  · rintro e W2 ⟨⟨v, rfl⟩, (⟨xs, hS, hi, hl⟩ | ⟨pre, hSp, c, hi, hl⟩)⟩
    · have q := run_endLoop (P := P) hl.1 (by rw [hR]; simp)
      rw [hR] at q
      exact ⟨none, _, q, hdone _ xs _ (Nat.le_refl _) hS (hI.putObj _ hi (by omega) hl.1 rfl) ((World.putObj_heap_other (by omega)).trans hl.2)⟩
    · have q := run_endLoop (P := P) hl.1 (by rw [hR]; simp)
      rw [hR] at q
      exact ⟨some c, _, q, hstop _ c pre _ (Nat.le_refl _) hSp ((hIx c).putObj _ hi (by omega) hl.1 rfl) ((World.putObj_heap_other (by omega)).trans hl.2)⟩
end
end Go.Proofs.YtnjifmecaeagaaaDoor
