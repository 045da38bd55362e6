/-
  Part of the proof of JournalUndo.
-/
import Derived.Test.YtkkbngcgphlikaaGreatDoorRows
import Derived.Deep.RegionHeld3
import Derived.OwnWalkIn
import Derived.RangeFuncBound
import Derived.RangeFuncNested
import Derived.Handy
import Derived.Test.YtkkbngcgphlikaaGreatDoorJu0
set_option linter.unusedVariables false
set_option linter.unusedSimpArgs false
section
namespace Go.Proofs.YtkkbngcgphlikaaGreatDoor
section
variable {P : Program} {L : List Oper} {Q : Exit → Act → World → Prop} {md : Region.Mode} {S : World → Prop}
theorem takeL (i : Nat) {o : Oper} {v : Value} {fuel : Nat} {listed : Array Bool} {a : Act} {w : World} (hi : L[i]? = some o)
 (hs : Region.noSelect L.toArray = true) (hf : Region.free md L.toArray listed i = true) (hr : (Region.ready md L.toArray listed).contains i = true)
 (hQ : ∀ c a w, Q (.panic c) (a.put o.dst v) w → Q (.panic c) a w) (hw : Region.wanted o (yielded L.toArray a.tmps) = true) (hS : S w)
 (hy : ∀ w, S w → (execOp a.eval o).run P w = .ok (.value v) w)
 (h : wpAnyH P md L.toArray Q S fuel (listed.setIfInBounds i true) (a.put o.dst v) w) : wpAnyH P md L.toArray Q S (fuel + 1) listed a w :=
 wpAnyH_take (by simpa using hi) hs hf hr hQ (.inl ⟨hw, hy⟩) hS h
theorem idleL (i : Nat) {o : Oper} {fuel : Nat} {listed : Array Bool} {a : Act} {w : World} (hi : L[i]? = some o)
 (hs : Region.noSelect L.toArray = true) (hf : Region.free md L.toArray listed i = true) (hr : (Region.ready md L.toArray listed).contains i = true)
 (hQ : ∀ c a w, Q (.panic c) (a.put o.dst undef) w → Q (.panic c) a w) (hw : Region.wanted o (yielded L.toArray a.tmps) = false) (hS : S w)
 (h : wpAnyH P md L.toArray Q S fuel (listed.setIfInBounds i true) (a.put o.dst undef) w) : wpAnyH P md L.toArray Q S (fuel + 1) listed a w :=
 wpAnyH_take (by simpa using hi) hs hf hr hQ (.inr ⟨hw, rfl⟩) hS h
theorem oneL (i : Nat) {o : Oper} {fuel : Nat} {listed : Array Bool} {a : Act} {w : World} (hi : L[i]? = some o) (hr : Region.ready md L.toArray listed = [i])
 (h : ∀ K' : Act → World → Prop, Shut (∀ a w, S w → (S w → wpAnyH P md L.toArray Q S fuel (listed.setIfInBounds i true) a w) → K' a w) → if Region.wanted o (yielded L.toArray a.tmps) = true then Oper.wp P o a w K' Q else K' (a.put o.dst undef) w) :
 wpAnyH P md L.toArray Q S (fuel + 1) listed a w :=
 wpAnyH_ready hr (by simp) (AllReadyH.cons (by simpa using hi) h AllReadyH.nil)
theorem twoL (i j : Nat) {o o' : Oper} {fuel : Nat} {listed : Array Bool} {a : Act} {w : World} (hi : L[i]? = some o) (hj : L[j]? = some o') (hr : Region.ready md L.toArray listed = [i, j])
 (h : ∀ K' : Act → World → Prop, Shut (∀ a w, S w → (S w → wpAnyH P md L.toArray Q S fuel (listed.setIfInBounds i true) a w) → K' a w) → if Region.wanted o (yielded L.toArray a.tmps) = true then Oper.wp P o a w K' Q else K' (a.put o.dst undef) w)
 (h' : ∀ K' : Act → World → Prop, Shut (∀ a w, S w → (S w → wpAnyH P md L.toArray Q S fuel (listed.setIfInBounds j true) a w) → K' a w) → if Region.wanted o' (yielded L.toArray a.tmps) = true then Oper.wp P o' a w K' Q else K' (a.put o'.dst undef) w) :
 wpAnyH P md L.toArray Q S (fuel + 1) listed a w :=
 wpAnyH_ready hr (by simp) (AllReadyH.cons (by simpa using hi) h (AllReadyH.cons (by simpa using hj) h' AllReadyH.nil))
end
end Go.Proofs.YtkkbngcgphlikaaGreatDoor
end
section
namespace Go.Proofs.YtkkbngcgphlikaaGreatDoor
abbrev Sp := Int × Int
def totS (l : List Sp) : Int := (l.map (·.2)).sum
theorem totS_nil : totS [] = 0 := rfl
theorem totS_cons (x : Sp) (l : List Sp) : totS (x :: l) = x.2 + totS l := by unfold totS; simp
theorem totS_app (l m : List Sp) : totS (l ++ m) = totS l + totS m := by unfold totS; simp
end Go.Proofs.YtkkbngcgphlikaaGreatDoor
end
section
namespace Go.Proofs.YtkkbngcgphlikaaGreatDoor
section
variable {P : Program} {ops : Array Oper} {Q : Exit → Act → World → Prop}
theorem noDefer_spec {ops : Array Oper} (h : ops.all (fun o => match o.op with | .defer _ => false | _ => true) = true) : ∀ (i : Nat) (o : Oper), ops[i]? = some o → ∀ c, o.op ≠ .defer c := by
 intro i o hi c hc
 rw [Array.all_eq_true_iff_forall_mem] at h
 have := h o (Array.mem_of_getElem? hi)
 rw [hc] at this
 cases this
theorem oper_wr {l n : Nat} {o : Oper} {a : Act} {w : World} {K K' : Act → World → Prop} (hd : ∀ c, o.op ≠ .defer c) (hK : ∀ a w, K a w → K' a w) (hq : ¬ LetsOut Q)
 (h : o.wp P a w K Q) : o.wpIn (Fence.wide.inRound l) n P a w K' Q := by
 refine ⟨fun _ _ => trivial, ?_⟩
 rw [Oper.semAt_plain _ _ _ hd]
 unfold Oper.wp at h
 generalize (execOp a.eval o).run P w = r at *
 cases r with
 | ok x w' =>
   cases x <;> simp only [Oper.upon, Oper.uponIn] at h ⊢
   case value v => exact hK _ _ h
   case skip => exact hK _ _ h
   case «defer» d => exact hK _ _ h
   case enter f args =>
    have h2 : CallsIn Fence.wide (n - 1) P f args w' _ := callsIn_wide.2 h
    refine ⟨fun h => (by cases h), CallsIn.mono (F := Fence.wide) h2 (fun e w'' he => by cases e <;> first | exact hK _ _ he | exact he)⟩
   case row row args =>
    refine ⟨fun h => (by cases h), fun c cs hroom => ?_⟩
    obtain ⟨v, w'', r, s⟩ := h c cs
    exact ⟨v, w'', hK _ _ r, stepsIn_wide.2 s⟩
 | halt x w' => cases x <;> simp only [Oper.upon, Oper.uponIn] at h ⊢ <;> exact h
theorem wpOps_wr {l n : Nat} (hd : ∀ (i : Nat) (o : Oper), ops[i]? = some o → ∀ c, o.op ≠ .defer c) (hq : ¬ LetsOut Q) :
 ∀ (is : List Nat) (a : Act) (w : World), wpOps P ops Q is a w → wpOpsIn (Fence.wide.inRound l) n P ops Q is a w
 | [], a, w, h => h
 | i :: rest, a, w, h => by
   unfold wpOpsIn
   unfold wpOps at h
   cases ho : ops[i]? with
   | none => simp only [ho] at h ⊢; exact wpOps_wr hd hq rest a w h
   | some o =>
     simp only [ho] at h ⊢
     split
     ·rename_i hw
      rw [if_pos hw] at h
      rcases h with h | ⟨_, h⟩
      ·exact oper_wr (hd i o ho) (fun a w => wpOps_wr hd hq rest a w) hq h
      ·exact (hq h).elim
     ·rename_i hw
      rw [if_neg hw] at h
      exact ⟨fun _ _ => trivial, wpOps_wr hd hq rest _ w h⟩
theorem wpIn_region_held_wr {l n id : Nat} {S : World → Prop} {a : Act} {w : World} (hm : P.follows .mixedOrders = true)
 (hd : ops.all (fun o => match o.op with | .defer _ => false | _ => true) = true) (hq : ¬ LetsOut Q) (hS : S w.drew)
 (h : S w.drew → wpAnyH P .any ops Q S ops.size (Array.replicate ops.size false) a w.drew) : (Code.region id ops true).wpIn (Fence.wide.inRound l) n P Q a w :=
 wpIn_region_draw fun t => by
  simp only [Region.schedule, hm, Bool.true_or, if_true]
  exact wpOps_wr (noDefer_spec hd) hq _ _ _ (wpAny_sound ops.size t _ a _ (wpAny_of_held _ _ _ _ (h hS)))
end
end Go.Proofs.YtkkbngcgphlikaaGreatDoor
end
section
namespace Go.Proofs.YtkkbngcgphlikaaGreatDoor
open Go.RowKit
def SeqTold {α : Type} (F : Fence) (n : Nat) (P : Program) (g : Nat) (lb : Array Value) (encs : α → Array Value) (Kp : World → World → Prop) (T : α → World → Prop) (S Sp : List α → Prop) (N : Nat) (w : World) : Prop :=
 ∀ (l : Nat) (J Jx : List α → World → Prop) (W : World), Below w.heap.size w W → AbidesFrom W.heap.size J → AbidesFrom W.heap.size Jx →
   (∀ pre x W1, J pre W1 → T x W1 → pre.length < N → YieldAt F (n - 1) P l (encs x) W1 fun e W' =>
     (e = .returned (.bool true) ∧ J (pre ++ [x]) W' ∧ Kp W1 W') ∨ (e = .returned (.bool false) ∧ Jx (pre ++ [x]) W')) →
   J [] W → CallsIn F n P g (#[.func (.yield l) #[] #[]] ++ lb) W fun e W' => (∃ v, e = .returned v) ∧ ((∃ xs, S xs ∧ J xs W') ∨ (∃ pre, Sp pre ∧ Jx pre W'))
section
variable {F : Fence} {n : Nat} {P : Program}
def Lp (L D : Nat) (r : Loop) (W : World) : Prop := W.heap[L]? = some (.loop r) ∧ W.heap[D]? = some (.deferred (some []))
theorem Lp.grown {L D : Nat} {r : Loop} {W W' : World} {row : Option Nat} (h : Lp L D r W) (hg : W.grownBy W' row) (hr : ∀ k, row = some k → ∃ o : Obj, W.heap[k]? = some o ∧ o.isWalk = true) : Lp L D r W' :=
 ⟨(grownBy_keeps hg hr h.1 rfl).trans h.1, (grownBy_keeps hg hr h.2 rfl).trans h.2⟩
theorem Lp.turn {L D : Nat} {r : Loop} {W : World} (h : Lp L D r W) (hne : L ≠ D) (r' : Loop) : Lp L D r' (W.putObj L (.loop r')) :=
 ⟨World.putObj_heap_same (Array.getElem?_eq_some_iff.1 h.1).1, (World.putObj_heap_other hne.symm).trans h.2⟩
theorem Lp.from {B L D : Nat} {r : Loop} {W W' : World} (h : Lp L D r W) (hk : KeepsFrom B W W') (hL : B ≤ L) (hD : B ≤ D) : Lp L D r W' := ⟨hk.same _ _ hL h.1 rfl, hk.same _ _ hD h.2 rfl⟩
theorem wpIn_rangeFunc_told {α : Type} {g : Operand} {ps : Array Tmp} {assign body : Code} {Q : Exit → Act → World → Prop} {a : Act} {w : World}
 (hro : F.round = none) (h1 : 1 ≤ n) {gf : Nat} {lb : Array Value} (hg : a.eval g = .func (.func gf) #[] lb) (hFg : F.fn gf) (eg : ∀ args w, (callFunc gf args).run P w = .ok (.enter gf args) w)
 {encs : α → Array Value} {Kp : World → World → Prop} {T : α → World → Prop} {S Sp : List α → Prop} {N : Nat} {w0 : World} (hseq : SeqTold F (n - 1) P gf lb encs Kp T S Sp N w0)
 (hKt : ∀ {A B C : World}, Kp A B → Kp B C → Kp A C) (hKb : ∀ (W : World) (l : Nat) (o o' : Obj), w.heap.size ≤ l → W.heap[l]? = some o → o.isCells = false → o.isWalk = false → Kp W (W.putObj l o')) (hb0 : Below w0.heap.size w0 w) (hps : ∀ x, (encs x).size = ps.size)
 (I : List α → World → Prop) (Ix : Code → List α → World → Prop) (hI : OwnFrom w.heap.size I) (hIx : ∀ c, OwnFrom w.heap.size (Ix c)) (h0 : I [] w) (Ax : α → Act → World → Prop) (hAx : ∀ x a', OwnFrom w.heap.size (fun (_ : Unit) W => Ax x a' W))
 (hassign : ∀ (l : Nat) (pre : List α) (x : α) (W : World) (K : Act → World → Prop), I pre W → T x W → (∀ a' W', KeepsFrom w.heap.size W W' → Kp W W' → I pre W' → Ax x a' W' → K a' W') →
   assign.wpIn (F.inRound l) (n - 1 - 1) P (Exit.then K (fun _ _ _ => False)) { tmps := (ps.zip (encs x)).foldl (fun t (p, v) => t.setIfInBounds p v) a.tmps, defers := [] } W)
 (hbody : ∀ (l : Nat) (pre : List α) (x : α) (a' : Act) (W : World), I pre W → Ax x a' W → pre.length < N → body.wpIn (F.inRound l) (n - 1 - 1) P (ownPostG w.heap.size Kp I Ix (pre ++ [x]) W) a' W)
 (hdone : ∀ (D : Nat) (xs : List α) (W : World), w.heap.size ≤ D → S xs → I xs W → W.heap[D]? = some (.deferred (some [])) → Q .normal { a with defers := { target := .collected D, args := #[] } :: a.defers } W)
 (hstop : ∀ (D : Nat) (c : Code) (pre : List α) (W : World), w.heap.size ≤ D → Sp pre → Ix c pre W → W.heap[D]? = some (.deferred (some [])) → c.wpIn F n P Q { a with defers := { target := .collected D, args := #[] } :: a.defers } W) :
 (Code.rangeFunc g ps assign body).wpIn F n P Q a w := by
 refine wpIn_rangeFunc ?_
 intro fn hfn
 rw [hro]
 obtain ⟨R, hR⟩ : ∃ R : LoopState → Option Code → Loop, R = fun st pe => { state := st, pending := pe, fn, tmps := a.tmps, params := ps, assign, body, defers := w.heap.size } := ⟨_, rfl⟩
 obtain ⟨W1, hW1⟩ : ∃ W1, W1 = (w.alloc (.deferred (some []))).alloc (.loop (R .ready none)) := ⟨_, rfl⟩
 have hen : (Instr.enterLoop fn a.tmps ps assign body none).run P w = .ok (w.heap.size + 1, [{ target := .collected w.heap.size, args := #[] }]) W1 := by
  rw [hW1, hR]; exact run_enterLoop_outer _ _ _ _ _
 have hlp : Lp (w.heap.size + 1) w.heap.size (R .ready none) W1 := by
  have q := World.alloc_heap_new (w.alloc (.deferred (some []))) (.loop (R .ready none))
  rw [World.size_alloc] at q
  rw [hW1]
  exact ⟨q, (Below.heap_alloc _ _ _ (by simp)).trans (World.alloc_heap_new w _)⟩
 have hi1 : I [] W1 := by rw [hW1]; exact hI.alloc _ (hI.alloc _ h0)
 have hb1 : Below w0.heap.size w0 W1 := by rw [hW1]; exact hb0.trans (((bZ w _).alloc (by simp) _).mono hb0.size)
 have hs1 : w.heap.size ≤ W1.heap.size := by rw [hW1]; simp; omega
 have hne : w.heap.size + 1 ≠ w.heap.size := by omega
 clear hW1
 refine ⟨_, _, W1, { target := .fn (.func gf) lb, args := #[.func (.yield (w.heap.size + 1)) #[] #[]] }, W1, gf, #[.func (.yield (w.heap.size + 1)) #[] #[]] ++ lb, W1, hen,
  by simp only [resolve, hg]; simp [go_sem], fun f' hf' => by simp [Target.leads] at hf'; subst hf'; exact hFg, by simp [invoke, go_sem, eg], fun _ => h1, ?_⟩
 clear hen
 have hrow : ∀ {A : World} {row : Option Nat}, (∀ r, row = some r → W1.heap.size ≤ r ∧ ∃ o : Obj, A.heap[r]? = some o ∧ o.isWalk = true) → (∀ r, row = some r → w.heap.size ≤ r ∧ ∃ o : Obj, A.heap[r]? = some o ∧ o.isCells = false) := fun h r e => by
  obtain ⟨q, o, ho, hw⟩ := h r e
  exact ⟨Nat.le_trans hs1 q, o, ho, Obj.not_cells_of_walk hw⟩
 have hend : ∀ (j : Option Code) (W3 : World), Lp (w.heap.size + 1) w.heap.size { R .ready none with state := .busy } W3 →
  (Instr.endRound (w.heap.size + 1) j).run P W3 = .ok (.bool j.isNone) (W3.putObj (w.heap.size + 1) (.loop (R (if j.isNone then .ready else .done) j))) := fun j W3 h => by
  have := run_endRound (P := P) j h.1
  rw [hR] at this ⊢
  exact this
 refine (hseq (w.heap.size + 1) (fun pre W => I pre W ∧ Lp (w.heap.size + 1) w.heap.size (R .ready none) W) (fun pre W => ∃ c, Ix c pre W ∧ Lp (w.heap.size + 1) w.heap.size (R .done (some c)) W) W1 hb1
  (fun s A B row hs hg hr => ⟨hI s A B row hs.1 hg (hrow hr), hs.2.grown hg (fun k e => (hr k e).2)⟩)
  (fun s A B row ⟨c, hc, hl⟩ hg hr => ⟨c, hIx c s A B row hc hg (hrow hr), hl.grown hg (fun k e => (hr k e).2)⟩) ?_ ⟨hi1, hlp⟩).mono ?_
 rotate_left
 ·rintro e W2 ⟨⟨v, rfl⟩, (⟨xs, hS, hi, hl⟩ | ⟨pre, hSp, c, hi, hl⟩)⟩
  ·have q := run_endLoop (P := P) hl.1 (by rw [hR]; simp)
   rw [hR] at q
   exact ⟨none, _, q, hdone _ xs _ (Nat.le_refl _) hS (hI.putObj _ hi (by omega) hl.1 rfl) ((World.putObj_heap_other (by omega)).trans hl.2)⟩
  have q := run_endLoop (P := P) hl.1 (by rw [hR]; simp)
  rw [hR] at q
  exact ⟨some c, _, q, hstop _ c pre _ (Nat.le_refl _) hSp ((hIx c).putObj _ hi (by omega) hl.1 rfl) ((World.putObj_heap_other (by omega)).trans hl.2)⟩
 rintro pre x W ⟨hi, hl⟩ hT hlen
 have hy := run_yield (P := P) (args := encs x) hl.1 (by rw [hR]; exact hps x)
 rw [hR] at hy
 refine ⟨fn, _, assign, body, hy, roundIn_of_wpIn hfn (hassign _ pre x W _ hi hT ?_)⟩
 intro a' Wa hk hkp hia hax
 have hla := hl.from hk (by omega) (Nat.le_refl _)
 have hlb := hla.turn hne { R .ready none with state := .busy }
 have hkb := hKt hkp (hKb Wa _ _ (.loop { R .ready none with state := .busy }) (by omega) hla.1 rfl rfl)
 refine ⟨_, run_beginRound hla.1 (by rw [hR]), wpIn_mono (hbody _ pre x a' _ (hI.putObj _ hia (by omega) hla.1 rfl) ((hAx x a').putObj (s := ()) _ hax (by omega) hla.1 rfl) hlen) ?_⟩
 rintro e a3 W3 hp
 have stop : ∀ c, KeepsFrom w.heap.size (Wa.putObj (w.heap.size + 1) (.loop { R .ready none with state := .busy })) W3 ∧ Ix c (pre ++ [x]) W3 →
  Ix c (pre ++ [x]) (W3.putObj (w.heap.size + 1) (.loop (R .done (some c)))) ∧ Lp (w.heap.size + 1) w.heap.size (R .done (some c)) (W3.putObj (w.heap.size + 1) (.loop (R .done (some c)))) := fun c h => by
  have h3 := hlb.from h.1 (by omega) (Nat.le_refl _)
  exact ⟨(hIx c).putObj _ h.2 (by omega) h3.1 rfl, h3.turn hne _⟩
 cases e with
 | normal =>
   obtain ⟨hk3, hkp3, hi3⟩ := hp
   have h3 := hlb.from hk3 (by omega) (Nat.le_refl _)
   exact ⟨_, _, hend none W3 h3, .inl ⟨rfl, ⟨hI.putObj _ hi3 (by omega) h3.1 rfl, h3.turn hne _⟩, hKt hkb (hKt hkp3 (hKb _ _ _ _ (by omega) h3.1 rfl rfl))⟩⟩
 | ret => exact ⟨_, _, hend (some .ret) W3 (hlb.from hp.1 (by omega) (Nat.le_refl _)), .inr ⟨rfl, .ret, stop _ hp⟩⟩
 | exit id => exact ⟨_, _, hend (some (.exit id)) W3 (hlb.from hp.1 (by omega) (Nat.le_refl _)), .inr ⟨rfl, .exit id, stop _ hp⟩⟩
 | goto t => exact ⟨_, _, hend (some (.goto t)) W3 (hlb.from hp.1 (by omega) (Nat.le_refl _)), .inr ⟨rfl, .goto t, stop _ hp⟩⟩
 | panic ch => exact hp.elim
 | outgrown => exact hp.elim
end
end Go.Proofs.YtkkbngcgphlikaaGreatDoor
end
section
namespace Go.Proofs.YtkkbngcgphlikaaGreatDoor
def nI (x : Nat) : Int := x
end Go.Proofs.YtkkbngcgphlikaaGreatDoor
end
section
namespace Go.Proofs.YtkkbngcgphlikaaGreatDoor
def kN (x : Nat) : Nat := x % 8
def cN (x : Nat) : Nat := x / 8 % 4
def lnN (x : Nat) : Nat := x / 32 % 64
def mN (x : Nat) : Nat := x / 2048 % 8192
def bN (x : Nat) : Nat := x / 16777216 % 256
def RightN (x : Nat) : Prop := x < 4294967296 ∧ (((kN x = 0 ∨ kN x = 3) ∧ cN x = 0 ∧ lnN x = 0 ∧ mN x = 0 ∧ bN x = 0) ∨
 (kN x = 1 ∧ lnN x = 0 ∧ mN x = 0 ∧ ((cN x = 0 ∧ bN x < 256) ∨ (cN x = 1 ∧ bN x < 16) ∨ (cN x = 2 ∧ bN x < 4))) ∨
 (kN x = 2 ∧ cN x = 0 ∧ lnN x = 0 ∧ bN x = 0 ∧ 1 ≤ mN x ∧ mN x ≤ 8191) ∨ (kN x = 4 ∧ cN x = 0 ∧ bN x = 0 ∧ lnN x < 64 ∧ mN x ≤ 7))
instance (x : Nat) : Decidable (RightN x) := by unfold RightN; infer_instance
def okN (x : Nat) : Bool := decide (RightN x)
theorem okN_t {x : Nat} (h : okN x = true) : RightN x := of_decide_eq_true h
theorem parts_bd (x : Nat) : kN x < 8 ∧ cN x < 4 ∧ lnN x < 64 ∧ mN x < 8192 ∧ bN x < 256 := by
 unfold kN cN lnN mN bN; omega
def stepT (x n : Nat) : Option Nat := if decide (kN x = 3) = decide (0 < n) then some (if kN x = 3 then n - 1 else if kN x = 2 then mN x - 1 else n) else none
def runT (t : List Nat) : Nat → Option Nat
 | 0 => some 0
 | k + 1 => (runT t k).bind (stepT (t.getD k 0))
def rightT (t : List Nat) : Bool := t.all okN && (runT t t.length == some 0)
theorem all_at {t : List Nat} (h : t.all okN = true) {k : Nat} (hk : k < t.length) : okN (t.getD k 0) = true := by
 rw [List.getD_eq_getElem?_getD, List.getElem?_eq_getElem hk]
 exact List.all_eq_true.1 h _ (List.getElem_mem hk)
theorem runT_app (t u : List Nat) : ∀ k, k ≤ t.length → runT (t ++ u) k = runT t k
 | 0, _ => rfl
 | k + 1, hk => by
   simp only [runT]
   rw [runT_app t u k (by omega)]
   congr 2
   simp only [List.getD_eq_getElem?_getD]
   rw [List.getElem?_append_left (by omega)]
theorem runT_app2 (t u : List Nat) (h : runT t t.length = some 0) : ∀ j, runT (t ++ u) (t.length + j) = runT u j
 | 0 => by rw [Nat.add_zero, runT_app t u _ (Nat.le_refl _), h]; rfl
 | j + 1 => by
   rw [← Nat.add_assoc]
   simp only [runT]
   rw [runT_app2 t u h j]
   congr 2
   simp only [List.getD_eq_getElem?_getD]
   rw [List.getElem?_append_right (by omega)]
   congr 2
   omega
theorem rightT_t {t : List Nat} (h : rightT t = true) : t.all okN = true ∧ runT t t.length = some 0 := by
 simp only [rightT, Bool.and_eq_true, beq_iff_eq] at h; exact h
theorem rightT_mk {t : List Nat} (h1 : t.all okN = true) (h2 : runT t t.length = some 0) : rightT t = true := by
 simp only [rightT, Bool.and_eq_true, beq_iff_eq]; exact ⟨h1, h2⟩
theorem rightT_app {t u : List Nat} (h1 : rightT t = true) (h2 : rightT u = true) : rightT (t ++ u) = true := by
 obtain ⟨a1, b1⟩ := rightT_t h1
 obtain ⟨a2, b2⟩ := rightT_t h2
 refine rightT_mk (by rw [List.all_append, a1, a2]; rfl) ?_
 rw [List.length_append, runT_app2 t u b1, b2]
theorem rightT_one {x : Nat} (h : okN x = true) (h2 : ¬ kN x = 2) (h3 : ¬ kN x = 3) : rightT [x] = true := by
 refine rightT_mk (by simp [h]) ?_
 simp [runT, stepT, h2, h3]
theorem runT_huge (x n : Nat) (hk : kN x = 2) (hm : mN x = n + 1) : ∀ j, j ≤ n → runT (x :: List.replicate n 3) (j + 1) = some (n - j)
 | 0, _ => by simp [runT, stepT, hk, hm]
 | j + 1, hj => by
   rw [runT, runT_huge x n hk hm j (by omega)]
   have e : (x :: List.replicate n 3).getD (j + 1) 0 = 3 := by
    simp only [List.getD_eq_getElem?_getD, List.getElem?_cons_succ]
    rw [List.getElem?_replicate, if_pos (by omega)]
    rfl
   rw [e]
   have : kN 3 = 3 := rfl
   simp only [Option.bind_some, stepT, this]
   have h0 : 0 < n - j := by omega
   simp [h0]
   omega
theorem rightT_huge {x n : Nat} (h : okN x = true) (hk : kN x = 2) (hm : mN x = n + 1) : rightT (x :: List.replicate n 3) = true := by
 refine rightT_mk ?_ ?_
 ·rw [List.all_eq_true]
  intro y hy
  rcases List.mem_cons.1 hy with rfl | hy
  ·exact h
  have := List.eq_of_mem_replicate hy
  subst this
  decide
 have := runT_huge x n hk hm n (Nat.le_refl _)
 rw [List.length_cons, List.length_replicate, this, Nat.sub_self]
abbrev Bl := Nat × Nat × Nat
def mnN (c : Nat) : Nat := if c = 0 then 8 else if c = 1 then 4 else if c = 2 then 2 else 0
def blN (c : Nat) : Nat := if c = 0 then 4 else if c = 1 then 8 else if c = 2 then 16 else 0
def liveL (b m : Nat) : List Nat := (List.range m).filter b.testBit
def blksAt (i x : Nat) : List Bl := if kN x = 1 then (liveL (bN x) (mnN (cN x))).map (fun j => (i, j, blN (cN x))) else if kN x = 2 then [(i, 0, mN x * 32)] else []
def blksFrom : Nat → List Nat → List Bl
 | _, [] => []
 | o, x :: t => blksAt o x ++ blksFrom (o + 1) t
def blksT (t : List Nat) : List Bl := if t.all okN then blksFrom 0 t else []
theorem blksFrom_app : ∀ (o : Nat) (t u : List Nat), blksFrom o (t ++ u) = blksFrom o t ++ blksFrom (o + t.length) u
 | o, [], u => by simp [blksFrom]
 | o, x :: t, u => by
   simp only [List.cons_append, blksFrom, blksFrom_app (o + 1) t u, List.append_assoc, List.length_cons]
   rw [show o + 1 + t.length = o + (t.length + 1) by omega]
theorem blksFrom_take (t : List Nat) (k : Nat) (hk : k < t.length) : blksFrom 0 (t.take (k + 1)) = blksFrom 0 (t.take k) ++ blksAt k (t.getD k 0) := by
 rw [List.take_succ_eq_append_getElem hk, blksFrom_app]
 congr 1
 simp only [blksFrom, List.append_nil, Nat.zero_add, List.length_take]
 rw [Nat.min_eq_left (by omega), List.getD_eq_getElem?_getD, List.getElem?_eq_getElem hk]
 rfl
theorem liveL_len (b m : Nat) : (liveL b m).length ≤ m := by
 unfold liveL
 refine Nat.le_trans (List.length_filter_le _ _) ?_
 rw [List.length_range]; exact Nat.le_refl _
theorem mnN_le (c : Nat) : mnN c ≤ 8 := by unfold mnN; split <;> (try split) <;> (try split) <;> omega
theorem blksAt_len (i x : Nat) : (blksAt i x).length ≤ 8 := by
 unfold blksAt
 split
 ·rw [List.length_map]; exact Nat.le_trans (liveL_len _ _) (mnN_le _)
 split <;> simp
theorem blksFrom_len : ∀ (o : Nat) (t : List Nat), (blksFrom o t).length ≤ 8 * t.length
 | _, [] => by simp [blksFrom]
 | o, x :: t => by
   rw [blksFrom, List.length_append, List.length_cons]
   have := blksAt_len o x
   have := blksFrom_len (o + 1) t
   omega
end Go.Proofs.YtkkbngcgphlikaaGreatDoor
end
