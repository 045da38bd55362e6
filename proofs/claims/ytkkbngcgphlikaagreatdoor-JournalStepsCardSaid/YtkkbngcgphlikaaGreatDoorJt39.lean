/-
  Part of the proof of JournalSteps.
-/
import Derived.Test.YtkkbngcgphlikaaGreatDoorJt38
import Derived.Test.YtkkbngcgphlikaaGreatDoorJt0
set_option linter.unusedVariables false
set_option linter.unusedSimpArgs false
section
namespace Go.Proofs.YtkkbngcgphlikaaGreatDoor
open Go.Lib Go.RowKit Go.ChangeShapes Go.WideShapes Go.Deep Go.Shelf
theorem h40J {I : List Nat} (h : I.length ≤ 1000) (x : Nat) : gNat I.length x ≤ 40 := by
 unfold gNat gN
 omega
theorem viewD_WL {s : Dv} (h : WD s) : WL (viewD s) := fun x hx => by
 unfold viewD at hx
 obtain ⟨i, -, rfl⟩ := List.mem_map.1 hx
 exact h.load _
theorem WD.lay {s : Dv} (h : WD s) (x : Int) {v : Nat} (hv : v < 18446744073709551616) : WD (layD s x v) := Al.lay h x v (fun _ _ _ => hv)
end Go.Proofs.YtkkbngcgphlikaaGreatDoor
end
section
namespace Go.Proofs.YtkkbngcgphlikaaGreatDoor
theorem inter_in (s : Sp) (K : Int) : ∀ (l : List Sp) (n : Int), (∀ x ∈ l, 0 ≤ x.1 ∧ x.1 + x.2 ≤ K) → ∀ y ∈ interL s n l, 0 ≤ y.1 ∧ 0 ≤ y.2 ∧ y.1 + y.2 ≤ K
 | [], _, _, y, hy => by simp [interL] at hy
 | x :: l, n, h, y, hy => by
   have hx := h x (by simp)
   simp only [interL] at hy
   rcases List.mem_append.1 hy with hy | hy
   ·unfold inter1 at hy
    split at hy
    ·simp at hy; subst hy; simp only []; omega
    ·simp at hy
   ·exact inter_in s K l (n + x.2) (fun z hz => h z (by simp [hz])) y hy
theorem cut_in {l : List Sp} (s : Sp) {K : Int} (h : ∀ x ∈ l, 0 ≤ x.1 ∧ x.1 + x.2 ≤ K) : ∀ y ∈ cutL l s, 0 ≤ y.1 ∧ 0 ≤ y.2 ∧ y.1 + y.2 ≤ K := by
 unfold cutL
 split
 ·exact fun x hx => by simp at hx
 split
 ·exact inter_in s K l 0 h
 exact fun x hx => by simp at hx
theorem logP_in {I : List Nat} {N L ln : Nat} (hgk : gOk (N : Nat) (L : Nat) = true) (hN : N ≤ 1000) : (∀ x ∈ logP I (N : Nat) (L : Nat) (ln : Nat), 0 ≤ x.1 ∧ x.1 + x.2 ≤ (N : Int)) ∧ (logP I (N : Nat) (L : Nat) (ln : Nat)).length ≤ 41 := by
 unfold logP
 cases hb : laneB I (N : Nat) (L : Nat) (ln : Nat) with
 | false => exact ⟨fun x hx => (by simp at hx), by simp⟩
 | true =>
   rw [if_pos rfl]
   have hb2 := hb
   unfold laneB readB at hb2
   simp only [Bool.and_eq_true, decide_eq_true_eq] at hb2
   obtain ⟨⟨-, hN3, -⟩, -, hl⟩ := hb2
   have hN' : I.length = N := by omega
   rw [Int.toNat_natCast, Int.toNat_natCast]
   have hg : gOk (I.length : Nat) (L : Nat) = true := by rw [hN']; exact hgk
   have h1 := logSp_len (ln := ln) hg
   have h2 := h40J (I := I) (by omega) L
   refine ⟨fun x hx => ?_, by omega⟩
   have h3 := logSp_in hg (show ln < L by omega) x hx
   omega
theorem roomJ_in (s : Dv) {N L ln : Nat} (m : Nat) (hgk : gOk (N : Nat) (L : Nat) = true) (hN : N ≤ 1000) : (∀ y ∈ roomJ s N L ln m, 0 ≤ y.1 ∧ 0 ≤ y.2 ∧ y.1 + y.2 ≤ (N : Int)) ∧ (roomJ s N L ln m).length ≤ 41 := by
 obtain ⟨h1, h2⟩ := logP_in (I := viewD s) (ln := ln) hgk hN
 unfold roomJ
 exact ⟨cut_in _ h1, Nat.le_trans (cut_pb _ (logP_PB hgk hN).1).2 h2⟩
theorem roomJ_PS (s : Dv) {N L ln : Nat} (m : Nat) (hgk : gOk (N : Nat) (L : Nat) = true) (hN : N ≤ 1000) : PS (roomJ s N L ln m) := fun x hx => by
 have := (roomJ_in s m hgk hN).1 x hx
 omega
end Go.Proofs.YtkkbngcgphlikaaGreatDoor
end
section
namespace Go.Proofs.YtkkbngcgphlikaaGreatDoor
theorem has_store (s : Dv) (x : Int) (v : Nat) (y : Int) : hasD (storeD s x v) y = hasD s y := by
 unfold hasD
 rw [(store_L s x v).1]
theorem steps_stoR (s : Dv) (room : List Sp) (ws : List Nat) (hd : s.dead = false) (hf : s.fuse = 0) : ∀ k, (∀ i, i < k → hasD s (atL room (i : Nat)) = true) →
 (stoR s room ws k).steps = s.steps + (k : Int) ∧ (stoR s room ws k).dead = false ∧ (stoR s room ws k).fuse = 0 ∧ (∀ y, hasD (stoR s room ws k) y = hasD s y)
 | 0, _ => ⟨by show s.steps = s.steps + 0; omega, hd, hf, fun _ => rfl⟩
 | k + 1, h => by
   obtain ⟨h1, h2, h3, h4⟩ := steps_stoR s room ws hd hf k (fun i hi => h i (by omega))
   rw [stoR_succ]
   obtain ⟨e1, e2, e3⟩ := steps_store h2 h3 (by rw [h4]; exact h k (by omega)) (ws.getD k 0)
   exact ⟨by rw [e1, h1]; push_cast; omega, e2, e3, fun y => by rw [has_store, h4]⟩
theorem steps_flushL : ∀ (l : List Sp) {s : Dv}, s.dead = false → s.fuse = 0 → (flushL s l).steps = s.steps + (l.length : Int) ∧ (flushL s l).dead = false ∧ (flushL s l).fuse = 0
 | [], s, hd, hf => ⟨by show s.steps = s.steps + 0; omega, hd, hf⟩
 | x :: l, s, hd, hf => by
   obtain ⟨e1, e2, e3⟩ := steps_flush hd hf x.1 x.2
   obtain ⟨h1, h2, h3⟩ := steps_flushL l e2 e3
   refine ⟨?_, h2, h3⟩
   have h4 : (flushL s (x :: l)).steps = s.steps + 1 + (l.length : Int) := by rw [← e1]; exact h1
   rw [h4, List.length_cons]
   push_cast
   omega
theorem steps_fenceL (l : List Sp) {s : Dv} (hd : s.dead = false) (hf : s.fuse = 0) : (fenceL s l).steps = s.steps + (l.length : Int) + 1 ∧ (fenceL s l).dead = false ∧ (fenceL s l).fuse = 0 := by
 obtain ⟨h1, h2, h3⟩ := steps_flushL l hd hf
 obtain ⟨e1, e2, e3⟩ := steps_fence h2 h3
 exact ⟨by show (fenceD (flushL s l)).steps = _; rw [e1, h1], e2, e3⟩
theorem flushL_L : ∀ (l : List Sp) (s : Dv), (flushL s l).L = s.L
 | [], s => rfl
 | x :: l, s => by
   have h := flushL_L l (flushD s x.1 x.2)
   rw [(flush_L s x.1 x.2).1] at h
   exact h
theorem has_fenceL (s : Dv) (l : List Sp) (y : Int) : hasD (fenceL s l) y = hasD s y := by
 unfold hasD fenceL
 rw [fence_len, flushL_L]
theorem steps_note {s : Dv} {N L ln A m : Nat} (hd : s.dead = false) (hf : s.fuse = 0) (hp : ∀ i, i < m + 2 → hasD s (atL (roomJ s N L ln m) (i : Nat)) = true) (hk : hasD s (10 + (ln : Int)) = true) :
 (noteD s N L ln A m).steps = s.steps + ((m : Int) + 2) + ((roomJ s N L ln m).length : Int) + 4 ∧ (noteD s N L ln A m).dead = false ∧ (noteD s N L ln A m).fuse = 0 := by
 unfold noteD
 generalize roomJ s N L ln m = room at *
 obtain ⟨h1, h2, h3, h4⟩ := steps_stoR s room (noteL (viewD s) (curG (loadD s (10 + (ln : Int)))) A m) hd hf (m + 2) hp
 obtain ⟨e1, e2, e3⟩ := steps_fenceL room h2 h3
 obtain ⟨f1, f2, f3⟩ := steps_lay e2 e3 (by rw [has_fenceL, h4]; exact hk) (1 + (curC (loadD s (10 + (ln : Int))) + (m + 2)) * 4 + curG (loadD s (10 + (ln : Int))) * 65536)
 exact ⟨by rw [f1, e1, h1]; push_cast; omega, f2, f3⟩
end Go.Proofs.YtkkbngcgphlikaaGreatDoor
end
section
namespace Go.Proofs.YtkkbngcgphlikaaGreatDoor
theorem inter_one (s : Sp) : ∀ (l : List Sp) (n : Int), ∀ y ∈ interL s n l, 1 ≤ y.2
 | [], _, y, hy => by simp [interL] at hy
 | x :: l, n, y, hy => by
   simp only [interL] at hy
   rcases List.mem_append.1 hy with hy | hy
   ·unfold inter1 at hy
    split at hy
    ·simp at hy; subst hy; simp only []; omega
    ·simp at hy
   ·exact inter_one s l (n + x.2) y hy
end Go.Proofs.YtkkbngcgphlikaaGreatDoor
end
section
namespace Go.Proofs.YtkkbngcgphlikaaGreatDoor
theorem totS_nn : ∀ (l : List Sp), PBs l → 0 ≤ totS l
 | [], _ => by rw [totS_nil]; omega
 | x :: l, h => by
   have h1 := totS_nn l (fun y hy => h y (by simp [hy]))
   have h2 := h x (by simp)
   unfold PB at h2
   rw [totS_cons]
   omega
theorem inter_tot (s : Sp) (hs : 0 ≤ s.2) : ∀ (l : List Sp) (n : Int), PBs l → totS (interL s n l) = max 0 (min (s.1 + s.2) (n + totS l) - max s.1 n)
 | [], n, _ => by
   simp only [interL]
   rw [totS_nil]
   omega
 | x :: l, n, h => by
   have h1 := totS_nn l (fun y hy => h y (by simp [hy]))
   have h2 := h x (by simp)
   unfold PB at h2
   have h3 := inter_tot s hs l (n + x.2) (fun y hy => h y (by simp [hy]))
   simp only [interL]
   rw [totS_app, h3, totS_cons]
   have h4 : totS (inter1 n s x) = max 0 (min (s.1 + s.2) (n + x.2) - max s.1 n) := by
    unfold inter1
    split
    ·rw [totS_cons, totS_nil]
     simp only []
     omega
    ·rw [totS_nil]
     omega
   rw [h4]
   omega
theorem cut_tot {l : List Sp} {s : Sp} (h : PBs l) (h0 : 0 ≤ s.1) (h1 : 1 ≤ s.2) (h2 : s.1 + s.2 ≤ totS l) : totS (cutL l s) = s.2 := by
 unfold cutL
 rw [if_neg (by omega), if_pos h2, inter_tot s (by omega) l 0 h]
 omega
end Go.Proofs.YtkkbngcgphlikaaGreatDoor
end
section
namespace Go.Proofs.YtkkbngcgphlikaaGreatDoor
theorem flushL_c : ∀ (l : List Sp) (s : Dv), (flushL s l).c = s.c
 | [], s => rfl
 | x :: l, s => by
   have h := flushL_c l (flushD s x.1 x.2)
   rw [(flush_L s x.1 x.2).2] at h
   exact h
theorem flushL_stay {y : Int} {v : Nat} : ∀ (l : List Sp) {s : Dv}, s.f y = some v → s.c y = some v → (flushL s l).f y = some v
 | [], s, hf, _ => hf
 | x :: l, s, hf, hc => flushL_stay l (flush_stay x.1 x.2 hf hc) (by rw [(flush_L s x.1 x.2).2]; exact hc)
theorem Al.flushL {A : Nat → Nat → Prop} : ∀ (l : List Sp) {s : Dv}, Al A s → Al A (flushL s l)
 | [], s, h => h
 | x :: l, s, h => Al.flushL l (h.flush x.1 x.2)
theorem Al.fenceL {A : Nat → Nat → Prop} (l : List Sp) {s : Dv} (h : Al A s) : Al A (fenceL s l) := (Al.flushL l h).fence
end Go.Proofs.YtkkbngcgphlikaaGreatDoor
end
section
namespace Go.Proofs.YtkkbngcgphlikaaGreatDoor
theorem load_stoR (s : Dv) (room : List Sp) (ws : List Nat) {x : Int} : ∀ k, (∀ i, i < k → ¬ x = atL room (i : Nat)) → loadD (stoR s room ws k) x = loadD s x
 | 0, _ => rfl
 | k + 1, h => by
   rw [stoR_succ, load_store_ne _ _ _ (h k (by omega))]
   exact load_stoR s room ws k (fun i hi => h i (by omega))
theorem load_flushL (x : Int) : ∀ (l : List Sp) (s : Dv), loadD (flushL s l) x = loadD s x
 | [], s => rfl
 | y :: l, s => by
   have h := load_flushL x l (flushD s y.1 y.2)
   rw [load_flush] at h
   exact h
theorem load_fenceL {s : Dv} {N m : Nat} (hg : GoodJ s N m) (hN : 1 ≤ N) (l : List Sp) (x : Int) : loadD (fenceL s l) x = loadD s x := by
 unfold fenceL
 rw [load_fence (GoodJ.flushes hN l hg), load_flushL]
theorem load_note_ne {s : Dv} {N L ln A m k0 : Nat} (hg : GoodJ s N k0) (hN : 1 ≤ N) {x : Int} (h1 : ¬ x = 10 + (ln : Int)) (h2 : ∀ i, i < m + 2 → ¬ x = atL (roomJ s N L ln m) (i : Nat)) : loadD (noteD s N L ln A m) x = loadD s x := by
 unfold noteD
 generalize roomJ s N L ln m = room at *
 have g1 := GoodJ.stoR hg room (noteL (viewD s) (curG (loadD s (10 + (ln : Int)))) A m) (m + 2)
 rw [load_lay_ne (GoodJ.fences hN room g1) hN _ _ h1, load_fenceL g1 hN, load_stoR _ _ _ _ h2]
end Go.Proofs.YtkkbngcgphlikaaGreatDoor
end
