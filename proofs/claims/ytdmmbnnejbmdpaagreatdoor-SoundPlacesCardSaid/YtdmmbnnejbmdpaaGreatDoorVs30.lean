/-
  Part of the proof of SoundPlaces.
-/
import Derived.Test.YtdmmbnnejbmdpaaGreatDoorVs12
import Derived.Test.YtdmmbnnejbmdpaaGreatDoorVs17
import Derived.Test.YtdmmbnnejbmdpaaGreatDoorVs2
import Derived.Test.YtdmmbnnejbmdpaaGreatDoorVs5
import Derived.Test.YtdmmbnnejbmdpaaGreatDoorVs6
import Derived.Test.YtdmmbnnejbmdpaaGreatDoorVs7
import Derived.Laws.CopyOwn
import Derived.Lib.AppendZerosOnto
import Derived.Lib.SliceRun
import Derived.Test.YtdmmbnnejbmdpaaGreatDoorVs0
set_option maxRecDepth 10000
set_option maxHeartbeats 1000000
set_option linter.unusedVariables false
set_option linter.unusedSimpArgs false
section
namespace Go.Proofs.YtdmmbnnejbmdpaaGreatDoor
open Go.RowKit Go.ChangeShapes Go.WideShapes Go.Deep Go.Shelf
attribute [local go_sem] Oper.semAt_some
def slV : Value → Value
 | .slice a n c => .slice a n c
 | _ => .slice none 0 0
def eS (x : Ex) : List Value := [.int .i64 x.1, slV x.2.1]
theorem KL.slV {K : IntKind} {w : World} {v : Value} {l : List Nat} (h : KL K w v l) : slV v = v := by
 obtain ⟨A, cap, rfl, _⟩ := h
 rfl
def px (x : Ex) : Pe := (x.1, x.2.2)
def EN (w : World) (v : Value) (l : List Pe) : Prop := ∃ xs : List Ex, EL 2 eS w v xs ∧ (∀ x ∈ xs, KL .u64 w x.2.1 x.2.2) ∧ xs.map px = l
theorem EN.keep {w w1 : World} {v : Value} {l : List Pe} (h : EN w v l) (hb : Below w.heap.size w w1) : EN w1 v l := by
 obtain ⟨xs, h1, h2, h3⟩ := h
 exact ⟨xs, h1.keep hb, fun x hx => (h2 x hx).keep hb, h3⟩
theorem EN.nil (w : World) : EN w (.slice none 0 0) [] := ⟨[], EL.nil _ _ _ _ _, fun x hx => by simp at hx, rfl⟩
theorem KL.grown {K : IntKind} {w w1 : World} {v : Value} {l : List Nat} {row : Option Nat} (h : KL K w v l) (hg : w.grownBy w1 row) (hne : ∀ g o m c, v = .slice (some ⟨g, o, none⟩) m c → row ≠ some g) : KL K w1 v l := by
 obtain ⟨A, cap, hv, h⟩ := h
 refine ⟨A, cap, hv, fun hl => ?_⟩
 obtain ⟨g, off, rfl, hg1, hc, hi⟩ := h hl
 refine ⟨g, off, rfl, Nat.lt_of_lt_of_le hg1 hg.size, hc, fun i hil => ?_⟩
 rw [← hi i hil]
 exact World.cell?_of_block (hg.block g hg1 (fun e => hne g off _ _ hv e.symm))
theorem ownLt_of {w : World} {Bo : Nat} {v : Value} {t : TypeId} (h : Boxed w Bo t v) (hv : ∀ b, v.ownBlock = some b → b < w.heap.size) : OwnLt w Bo := fun b ⟨u, hu, ho⟩ => by
 rw [h.cell] at hu; cases hu; exact hv b ho
theorem ownAt_iff {w : World} {Bo b : Nat} {v : Value} {t : TypeId} (h : Boxed w Bo t v) : OwnAt w Bo b ↔ v.ownBlock = some b :=
 ⟨fun ⟨u, hu, ho⟩ => by rw [h.cell] at hu; cases hu; exact ho, fun q => ⟨v, h.cell, q⟩⟩
theorem kp_body {n₀ Bo : Nat} {W w1 : World} {v v' : Value} {o : Obj} {t : TypeId} (hc : Boxed W Bo t v) (hn : n₀ ≤ Bo) (hb : ∀ g, v.ownBlock = some g → n₀ ≤ g) (hg : (W.alloc o).grownBy w1 v.ownBlock) (hl : v'.ownBlock = v.ownBlock ∨ v'.ownBlock = some (W.alloc o).heap.size) (hne : some Bo ≠ v.ownBlock)
 (hlt : ∀ g, v'.ownBlock = some g → g < w1.heap.size) : Kp n₀ Bo W (w1.setCell ⟨Bo, 0, none⟩ v') := by
 have hY : Boxed (w1.setCell ⟨Bo, 0, none⟩ v') Bo t v' := ((hc.alloc o).kept hg hne).set v'
 have hs := hg.size
 simp only [World.size_alloc] at hs
 have hcl := hc.lt
 refine ⟨(((Below.refl _ _).alloc (by omega) _).grown hg (by simp; omega) (fun j hj => hb j hj)).setCell hn _, fun b cs tt f hbk hbn ho => ?_, fun b hbl q => ?_, fun _ => ownLt_of hY (fun b q => by have := hlt b q; simpa using this)⟩
 ·have hbl := (Array.getElem?_eq_some_iff.1 hbk).1
  rw [Below.heap_setCell w1 ⟨Bo, 0, none⟩ v' b hbn, hg.block b (by simp; omega) (fun q => ho ((ownAt_iff hc).2 q.symm)), Below.heap_alloc W o b hbl]
 ·have q1 := (ownAt_iff hY).1 q
  rcases hl with hl | hl
  ·exact (ownAt_iff hc).2 (hl ▸ q1)
  ·rw [hl] at q1
   simp at q1; omega
theorem wpListIn_append_run {F : Fence} {n : Nat} {P : Program} {w w' : World} {ops : Array Oper} {rest : List Oper} {o : Oper} {a : Act} {Q : Exit → Act → World → Prop} (hg : o.guard = none) (s x : Operand) (t : TypeId)
 (hop : o.op = Op.call { callee := Callee.builtin Builtin.append, args := #[s, x], argTypes := #[t, t] }) (vs vx v : Value) (hs : a.eval s = vs) (hx : a.eval x = vx)
 (hrun : (Builtin.append_ #[t, t] o.type #[vs, vx]).run P w = .ok v w') (h : wpListIn F n P ops Q rest (a.put o.dst v) w') : wpListIn F n P ops Q (o :: rest) a w := by
 refine wpListIn_plain hg fun K hK' => ?_
 unfold Oper.wpIn
 refine ⟨?_, ?_⟩
 ·simp [Oper.about, hop, resolve, Target.leads, Sem.run_pure]
 ·rw [Oper.semAt_plain F _ _ (by rw [hop]; intro c hc'; cases hc')]
  simp [execOp, hop, resolve, invoke, builtin, hs, hx, hrun, Result.andThen]
  exact hK' _ _ h
end Go.Proofs.YtdmmbnnejbmdpaaGreatDoor
end
section
set_option maxRecDepth 100000
namespace Go.Proofs.YtdmmbnnejbmdpaaGreatDoor
open Go.RowKit
theorem hd_t {t s n : Int} : hdB t s n = true ↔ (1 ≤ t ∧ t ≤ 65535 ∧ 0 ≤ s ∧ s ≤ 4096 ∧ ¬ n = 0) := by unfold hdB; rw [decide_eq_true_eq]
theorem hd_f {t s n : Int} (h : ¬ (1 ≤ t ∧ t ≤ 65535 ∧ 0 ≤ s ∧ s ≤ 4096 ∧ ¬ n = 0)) : hdB t s n = false := decide_eq_false h
theorem right_any_oc (t s n : Int) (w : World) (hn : 0 ≤ n) : Calls Tryz.prog 109 #[nV t s n] w fun e w' => e = .returned (.bool (hdB t s n)) ∧ Below w.heap.size w w' := by
 unfold nV
 by_cases k1 : 1 ≤ t
 ·by_cases k2 : t ≤ 65535
  ·by_cases k3 : 0 ≤ s
   ·by_cases k4 : s ≤ 4096
    ·by_cases k5 : n = 0
     ·rw [hd_f (by omega)]
      subst k5
      clear hn
      have j1 : t ≥ 1 := by omega
      have j2 : t ≤ 65535 := by omega
      go_enter Tryz.func109, Tryz.ntmps109
      go_wp2_with fail
      go_ret
      exact ⟨rfl, by go_grown⟩
     ·rw [hd_t.2 ⟨k1, k2, k3, k4, k5⟩]
      have j1 : t ≥ 1 := by omega
      have j2 : t ≤ 65535 := by omega
      have j5 : 0 < n := by omega
      go_enter Tryz.func109, Tryz.ntmps109
      go_wp2_with fail
      go_ret
      exact ⟨by first | rfl | (refine ret_b ?_; first | (simp; omega) | (simp [k5]; done)), by go_grown⟩
    ·rw [hd_f (by omega)]
     have j1 : t ≥ 1 := by omega
     have j2 : t ≤ 65535 := by omega
     have k4' : 4096 < s := by omega
     go_enter Tryz.func109, Tryz.ntmps109
     go_wp2_with fail
     go_ret
     exact ⟨rfl, by go_grown⟩
   ·rw [hd_f (by omega)]
    have j1 : t ≥ 1 := by omega
    have j2 : t ≤ 65535 := by omega
    have k3' : s < 0 := by omega
    go_enter Tryz.func109, Tryz.ntmps109
    go_wp2_with fail
    go_ret
    exact ⟨rfl, by go_grown⟩
  ·rw [hd_f (by omega)]
   have j1 : t ≥ 1 := by omega
   have j2 : ¬ (t ≤ 65535) := by omega
   go_enter Tryz.func109, Tryz.ntmps109
   go_wp2_with fail
   go_ret
   exact ⟨rfl, by go_grown⟩
 ·rw [hd_f (by omega)]
  have j1 : ¬ (t ≥ 1) := by omega
  go_enter Tryz.func109, Tryz.ntmps109
  go_wp2_with fail
  go_ret
  exact ⟨rfl, by go_grown⟩
theorem refRight_any_oc (t s n : Int) (w : World) (hn : 0 ≤ n) : Calls Tryz.prog 67 #[nV t s n] w fun e w' => e = .returned (.bool (hdB t s n)) ∧ Below w.heap.size w w' := by
 unfold nV
 by_cases k1 : 1 ≤ t
 ·by_cases k2 : t ≤ 65535
  ·by_cases k3 : 0 ≤ s
   ·by_cases k4 : s ≤ 4096
    ·by_cases k5 : n = 0
     ·rw [hd_f (by omega)]
      subst k5
      clear hn
      have j1 : t > 0 := by omega
      have j2 : t < 65536 := by omega
      go_enter Tryz.func67, Tryz.ntmps67
      go_wp2_with fail
      go_ret
      exact ⟨rfl, by go_grown⟩
     ·rw [hd_t.2 ⟨k1, k2, k3, k4, k5⟩]
      have j1 : t > 0 := by omega
      have j2 : t < 65536 := by omega
      have j5 : 0 < n := by omega
      go_enter Tryz.func67, Tryz.ntmps67
      go_wp2_with fail
      go_ret
      exact ⟨by first | rfl | (refine ret_b ?_; first | (simp; omega) | (simp [k5]; done)), by go_grown⟩
    ·rw [hd_f (by omega)]
     have j1 : t > 0 := by omega
     have j2 : t < 65536 := by omega
     have k4' : 4096 < s := by omega
     go_enter Tryz.func67, Tryz.ntmps67
     go_wp2_with fail
     go_ret
     exact ⟨rfl, by go_grown⟩
   ·rw [hd_f (by omega)]
    have j1 : t > 0 := by omega
    have j2 : t < 65536 := by omega
    have k3' : s < 0 := by omega
    go_enter Tryz.func67, Tryz.ntmps67
    go_wp2_with fail
    go_ret
    exact ⟨rfl, by go_grown⟩
  ·rw [hd_f (by omega)]
   have j1 : t > 0 := by omega
   have j2 : ¬ (t < 65536) := by omega
   go_enter Tryz.func67, Tryz.ntmps67
   go_wp2_with fail
   go_ret
   exact ⟨rfl, by go_grown⟩
 ·rw [hd_f (by omega)]
  have j1 : ¬ (t > 0) := by omega
  go_enter Tryz.func67, Tryz.ntmps67
  go_wp2_with fail
  go_ret
  exact ⟨rfl, by go_grown⟩
theorem pI1 {t : Nat} (h : t < 65536) : putI 0 0 16 (t : Nat) = (t : Int) := by
 unfold putI; rw [show (0 : Int).toNat = 0 from rfl, show (16 : Int).toNat = 16 from rfl, Int.toNat_natCast, put1 h]
theorem pI2 {t s : Nat} (h : t < 65536) (hs : s < 65536) : putI (t : Nat) 16 16 (s : Nat) = ((t + 65536 * s : Nat) : Int) := by
 unfold putI; rw [show (16 : Int).toNat = 16 from rfl, Int.toNat_natCast, Int.toNat_natCast, put2 h hs]
theorem pI3 {t s : Nat} (h : t < 65536) (hs : s < 65536) : putI ((t + 65536 * s : Nat) : Int) 48 16 64087 = ((hdW t s : Nat) : Int) := by
 unfold putI; rw [show (16 : Int).toNat = 16 from rfl, show (48 : Int).toNat = 48 from rfl, show (64087 : Int).toNat = 64087 from rfl, Int.toNat_natCast, put3 (by omega)]; rfl
theorem first_any_oc (t s : Nat) (n : Int) (w : World) (h : t < 65536) (hs : s < 65536) : Calls Tryz.prog 110 #[nV t s n] w fun e w' => e = .returned (.int .u64 (hdW t s : Nat)) ∧ Below w.heap.size w w' := by
 unfold nV
 have c1 : IntKind.u64.wrap (t : Int) = (t : Int) := by rw [IntKind.wrap_u64]; omega
 have c2 : IntKind.u64.wrap (s : Int) = (s : Int) := by rw [IntKind.wrap_u64]; omega
 have hP1 := lh (fun w => put_yes 0 0 16 (t : Nat) w (by omega) (by omega) (by omega) (by omega) (by omega) (by omega) (by omega) (by omega))
 have hP2 := lh (fun w => put_yes (t : Nat) 16 16 (s : Nat) w (by omega) (by omega) (by omega) (by omega) (by omega) (by omega) (by omega) (by omega))
 have hP3 := lh (fun w => put_yes ((t + 65536 * s : Nat) : Int) 48 16 64087 w (by omega) (by omega) (by omega) (by omega) (by omega) (by omega) (by omega) (by omega))
 rw [pI1 h] at hP1
 rw [pI2 h hs] at hP2
 rw [pI3 h hs] at hP3
 obtain ⟨x, hx⟩ : ∃ x : Nat, t + 65536 * s = x := ⟨_, rfl⟩
 obtain ⟨y, hy⟩ : ∃ y : Nat, hdW t s = y := ⟨_, rfl⟩
 rw [hx] at hP2 hP3
 rw [hy] at hP3 ⊢
 clear hx hy h hs
 go_enter Tryz.func110, Tryz.ntmps110
 go_wp2_with fail
 refine (hP1.out _).mono ?_
 rintro e w1 ⟨rfl, rfl⟩
 go_wp2_with fail
 refine (hP2.out _).mono ?_
 rintro e w1 ⟨rfl, rfl⟩
 go_wp2_with fail
 refine (hP3.out _).mono ?_
 rintro e w1 ⟨rfl, rfl⟩
 go_wp2_with fail
 go_ret
 exact ⟨rfl, by go_grown⟩
end Go.Proofs.YtdmmbnnejbmdpaaGreatDoor
end
