/-
  Part of the proof of JournalSaves.
-/
import Derived.Test.YtkkbngcgphlikaaGreatDoorJv14
import Derived.Test.YtkkbngcgphlikaaGreatDoorJv20
import Derived.Test.YtkkbngcgphlikaaGreatDoorJv39
import Derived.Test.YtkkbngcgphlikaaGreatDoorJv0
set_option linter.unusedVariables false
set_option linter.unusedSimpArgs false
section
namespace Go.Proofs.YtkkbngcgphlikaaGreatDoor
open Go.Lib Go.RowKit Go.ChangeShapes Go.WideShapes Go.Deep Go.Shelf
theorem h40J {I : List Nat} (h : I.length ≤ 1000) (x : Nat) : gNat I.length x ≤ 40 := by
 unfold gNat gN
 omega
theorem viewD_WL {s : Dv} (h : WD s) : WL (viewD s) := fun x hx => by
 unfold viewD at hx
 obtain ⟨i, -, rfl⟩ := List.mem_map.1 hx
 exact h.load _
theorem WD.lay {s : Dv} (h : WD s) (x : Int) {v : Nat} (hv : v < 18446744073709551616) : WD (layD s x v) := Al.lay h x v (fun _ _ _ => hv)
end Go.Proofs.YtkkbngcgphlikaaGreatDoor
end
section
namespace Go.Proofs.YtkkbngcgphlikaaGreatDoor
theorem inter_in (s : Sp) (K : Int) : ∀ (l : List Sp) (n : Int), (∀ x ∈ l, 0 ≤ x.1 ∧ x.1 + x.2 ≤ K) → ∀ y ∈ interL s n l, 0 ≤ y.1 ∧ 0 ≤ y.2 ∧ y.1 + y.2 ≤ K
 | [], _, _, y, hy => by simp [interL] at hy
 | x :: l, n, h, y, hy => by
   have hx := h x (by simp)
   simp only [interL] at hy
   rcases List.mem_append.1 hy with hy | hy
   ·unfold inter1 at hy
    split at hy
    ·simp at hy; subst hy; simp only []; omega
    ·simp at hy
   ·exact inter_in s K l (n + x.2) (fun z hz => h z (by simp [hz])) y hy
theorem cut_in {l : List Sp} (s : Sp) {K : Int} (h : ∀ x ∈ l, 0 ≤ x.1 ∧ x.1 + x.2 ≤ K) : ∀ y ∈ cutL l s, 0 ≤ y.1 ∧ 0 ≤ y.2 ∧ y.1 + y.2 ≤ K := by
 unfold cutL
 split
 ·exact fun x hx => by simp at hx
 ·split
  ·exact inter_in s K l 0 h
  ·exact fun x hx => by simp at hx
theorem logP_in {I : List Nat} {N L ln : Nat} (hgk : gOk (N : Nat) (L : Nat) = true) (hN : N ≤ 1000) : (∀ x ∈ logP I (N : Nat) (L : Nat) (ln : Nat), 0 ≤ x.1 ∧ x.1 + x.2 ≤ (N : Int)) ∧ (logP I (N : Nat) (L : Nat) (ln : Nat)).length ≤ 41 := by
 unfold logP
 cases hb : laneB I (N : Nat) (L : Nat) (ln : Nat) with
 | false => exact ⟨fun x hx => (by simp at hx), by simp⟩
 | true =>
   rw [if_pos rfl]
   have hb2 := hb
   unfold laneB readB at hb2
   simp only [Bool.and_eq_true, decide_eq_true_eq] at hb2
   obtain ⟨⟨-, hN3, -⟩, -, hl⟩ := hb2
   have hN' : I.length = N := by omega
   rw [Int.toNat_natCast, Int.toNat_natCast]
   have hg : gOk (I.length : Nat) (L : Nat) = true := by rw [hN']; exact hgk
   have h1 := logSp_len (ln := ln) hg
   have h2 := h40J (I := I) (by omega) L
   refine ⟨fun x hx => ?_, by omega⟩
   have h3 := logSp_in hg (show ln < L by omega) x hx
   omega
theorem roomJ_in (s : Dv) {N L ln : Nat} (m : Nat) (hgk : gOk (N : Nat) (L : Nat) = true) (hN : N ≤ 1000) : (∀ y ∈ roomJ s N L ln m, 0 ≤ y.1 ∧ 0 ≤ y.2 ∧ y.1 + y.2 ≤ (N : Int)) ∧ (roomJ s N L ln m).length ≤ 41 := by
 obtain ⟨h1, h2⟩ := logP_in (I := viewD s) (ln := ln) hgk hN
 unfold roomJ
 exact ⟨cut_in _ h1, Nat.le_trans (cut_pb _ (logP_PB hgk hN).1).2 h2⟩
theorem roomJ_PS (s : Dv) {N L ln : Nat} (m : Nat) (hgk : gOk (N : Nat) (L : Nat) = true) (hN : N ≤ 1000) : PS (roomJ s N L ln m) := fun x hx => by
 have := (roomJ_in s m hgk hN).1 x hx
 omega
end Go.Proofs.YtkkbngcgphlikaaGreatDoor
end
section
namespace Go.Proofs.YtkkbngcgphlikaaGreatDoor
theorem steps_flushL : ∀ (l : List Sp) {s : Dv}, s.dead = false → s.fuse = 0 → (flushL s l).steps = s.steps + (l.length : Int) ∧ (flushL s l).dead = false ∧ (flushL s l).fuse = 0
 | [], s, hd, hf => ⟨by show s.steps = s.steps + 0; omega, hd, hf⟩
 | x :: l, s, hd, hf => by
   obtain ⟨e1, e2, e3⟩ := steps_flush hd hf x.1 x.2
   obtain ⟨h1, h2, h3⟩ := steps_flushL l e2 e3
   refine ⟨?_, h2, h3⟩
   have h4 : (flushL s (x :: l)).steps = s.steps + 1 + (l.length : Int) := by rw [← e1]; exact h1
   rw [h4, List.length_cons]
   push_cast
   omega
theorem steps_fenceL (l : List Sp) {s : Dv} (hd : s.dead = false) (hf : s.fuse = 0) : (fenceL s l).steps = s.steps + (l.length : Int) + 1 ∧ (fenceL s l).dead = false ∧ (fenceL s l).fuse = 0 := by
 obtain ⟨h1, h2, h3⟩ := steps_flushL l hd hf
 obtain ⟨e1, e2, e3⟩ := steps_fence h2 h3
 exact ⟨by show (fenceD (flushL s l)).steps = _; rw [e1, h1], e2, e3⟩
theorem flushL_L : ∀ (l : List Sp) (s : Dv), (flushL s l).L = s.L
 | [], s => rfl
 | x :: l, s => by
   have h := flushL_L l (flushD s x.1 x.2)
   rw [(flush_L s x.1 x.2).1] at h
   exact h
end Go.Proofs.YtkkbngcgphlikaaGreatDoor
end
section
namespace Go.Proofs.YtkkbngcgphlikaaGreatDoor
theorem flushL_c : ∀ (l : List Sp) (s : Dv), (flushL s l).c = s.c
 | [], s => rfl
 | x :: l, s => by
   have h := flushL_c l (flushD s x.1 x.2)
   rw [(flush_L s x.1 x.2).2] at h
   exact h
theorem flushL_stay {y : Int} {v : Nat} : ∀ (l : List Sp) {s : Dv}, s.f y = some v → s.c y = some v → (flushL s l).f y = some v
 | [], s, hf, _ => hf
 | x :: l, s, hf, hc => flushL_stay l (flush_stay x.1 x.2 hf hc) (by rw [(flush_L s x.1 x.2).2]; exact hc)
theorem flushL_in {i v : Nat} : ∀ (l : List Sp) {s : Dv}, s.dead = false → s.fuse = 0 → i < s.L.length → s.c (i : Int) = some v → (∃ x ∈ l, x.1 ≤ (i : Int) ∧ (i : Int) < x.1 + x.2) → (flushL s l).f (i : Int) = some v
 | [], s, _, _, _, _, h => by obtain ⟨x, hx, _⟩ := h; simp at hx
 | x :: l, s, hd, hf, hi, hc, h => by
   obtain ⟨e1, e2, e3⟩ := steps_flush hd hf x.1 x.2
   by_cases hx : x.1 ≤ (i : Int) ∧ (i : Int) < x.1 + x.2
   ·exact flushL_stay l (flush_in e2 hi hx.1 hx.2 hc) (by rw [(flush_L s x.1 x.2).2]; exact hc)
   ·refine flushL_in l e2 e3 (by rw [(flush_L s x.1 x.2).1]; exact hi) (by rw [(flush_L s x.1 x.2).2]; exact hc) ?_
    obtain ⟨y, hy, h2⟩ := h
    rcases List.mem_cons.1 hy with e | e
    ·subst e; exact absurd h2 hx
    ·exact ⟨y, e, h2⟩
theorem Al.flushL {A : Nat → Nat → Prop} : ∀ (l : List Sp) {s : Dv}, Al A s → Al A (flushL s l)
 | [], s, h => h
 | x :: l, s, h => Al.flushL l (h.flush x.1 x.2)
theorem Al.fenceL {A : Nat → Nat → Prop} (l : List Sp) {s : Dv} (h : Al A s) : Al A (fenceL s l) := (Al.flushL l h).fence
theorem save_cl {s : Dv} {N m : Nat} (hg : GoodJ s N m) (hd : s.dead = false) (hf : s.fuse = 0) (l : List Sp) {i : Nat} (hi : i < N) (h : ∃ x ∈ l, x.1 ≤ (i : Int) ∧ (i : Int) < x.1 + x.2) : ∀ u, PV (fenceL s l) i u → u = loadD s (i : Int) := by
 have hi2 : i < s.L.length := by rw [hg.len]; exact hi
 have hh : hasD s (i : Int) = true := by
  unfold hasD
  rw [Bool.and_eq_true]
  exact ⟨decide_eq_true (by omega), decide_eq_true (by omega)⟩
 have hlen : (fenceL s l).L.length = s.L.length := by unfold fenceL; rw [fence_len, flushL_L]
 cases hc : s.c (i : Int) with
 | none =>
   have e : loadD s (i : Int) = s.L.getD i 0 := by
    unfold loadD
    rw [if_pos hh, hc]
    rfl
   rw [e]
   have hA : Al (fun j v => j = i → v = s.L.getD i 0) s := fun j hj v hv e => by
    subst e
    rcases hv with q | q | q
    ·exact q
    ·obtain ⟨b, hb⟩ := hg.fin _ _ q
     rw [hc] at hb
     cases hb
    ·rw [hc] at q
     cases q
   exact fun u hu => (Al.fenceL l hA) i (by rw [hlen]; exact hi2) u hu rfl
 | some v =>
   have e : loadD s (i : Int) = v := by
    unfold loadD
    rw [if_pos hh, hc]
    rfl
   rw [e]
   have h1 := flushL_in l hd hf hi2 hc h
   have h2 : (flushL s l).c (i : Int) = some v := by rw [flushL_c]; exact hc
   have h3 := (steps_fenceL l hd hf).2.1
   exact (fence_cl h3 (by rw [flushL_L]; exact hi2) h1 h2).2.2
end Go.Proofs.YtkkbngcgphlikaaGreatDoor
end
