/-
  Layer 3 (pmem): what operations keep; the chapter's example.
-/
import Derived.Test.YtcemiclbeocnjaaPm9
set_option linter.unusedVariables false
set_option linter.unusedSimpArgs false
namespace Go.Proofs.Ytcemiclbeocnjaa
open Go.RowKit Go.ChangeShapes Go.WideShapes Go.Deep Go.Maps

structure GoodK (s : Dv) (N k : Nat) : Prop where
  len : s.L.length = N
  cin : ∀ x a, s.c x = some a → 0 ≤ x ∧ x < N
  fin : ∀ x a, s.f x = some a → ∃ b, s.c x = some b
  n : s.n ≤ 1000 * k
  st0 : 0 ≤ s.steps
  st : s.steps ≤ k
  fu0 : 0 ≤ s.fuse
  fu : s.fuse ≤ 1099511627776
theorem GoodK.good {s : Dv} {N k : Nat} (h : GoodK s N k) (h1 : 1 ≤ N) (h2 : N ≤ 1000) (hk : k ≤ 100) : GoodD s := by
  obtain ⟨a, b, c, d, e, f, g, i⟩ := h
  exact ⟨by omega, by omega, by rw [a]; exact b, c, by omega, e, by omega, g, i⟩
theorem GoodK.zero (L : List Nat) : GoodK (dv0 L) L.length 0 := ⟨rfl, fun x a h => (by cases h), fun x a h => (by cases h), Nat.le_refl _, Int.le_refl _, Int.le_refl _, Int.le_refl _, (by show (0 : Int) ≤ 1099511627776; decide)⟩
theorem GoodK.step {s : Dv} {N k : Nat} (h : GoodK s N k) : GoodK (stepD s) N (k + 1) := by
  obtain ⟨a, b, c, d, e, f, g, i⟩ := h
  unfold stepD
  split
  · exact ⟨a, b, c, by omega, e, by omega, g, i⟩
  · split
    · exact ⟨a, b, c, by simp only []; omega, e, by simp only []; omega, by simp only []; omega, by simp only []; omega⟩
    · exact ⟨a, b, c, by simp only []; omega, by simp only []; omega, by simp only []; omega, by simp only []; omega, by simp only []; omega⟩
theorem GoodK.store {s : Dv} {N k : Nat} (h : GoodK s N k) (x : Int) (v : Nat) : GoodK (storeD s x v) N (k + 1) := by
  have h1 := h.step
  unfold storeD
  split
  · rename_i hx
    split
    · obtain ⟨a, b, c, d, e, f, g, i⟩ := h1
      obtain ⟨q1, q2, q3, q4⟩ := stepD_same s
      simp only [hasD, Bool.and_eq_true, decide_eq_true_eq] at hx
      have hl := h.len
      refine ⟨a, fun y z hy => ?_, fun y z hy => ?_, by have := h.n; simp only []; omega, e, f, g, i⟩
      · simp only [putU] at hy
        split at hy
        · omega
        · exact h.cin y z hy
      · simp only [putU]
        split
        · exact ⟨_, rfl⟩
        · rw [show ((stepD s).f) = s.f from q3] at hy
          exact h.fin y z hy
    · exact h1
  · exact ⟨h.len, h.cin, h.fin, by have := h.n; omega, h.st0, by have := h.st; omega, h.fu0, h.fu⟩
theorem GoodK.flush {s : Dv} {N k : Nat} (h : GoodK s N k) (hN : N ≤ 1000) (x m : Int) : GoodK (flushD s x m) N (k + 1) := by
  have h1 := h.step
  unfold flushD
  split
  · obtain ⟨a, b, c, d, e, f, g, i⟩ := h1
    obtain ⟨q1, q2, q3, q4⟩ := stepD_same s
    refine ⟨a, b, fun y z hy => ?_, by have := h.n; have := h.len; simp only []; omega, e, f, g, i⟩
    rw [show ((stepD s).c) = s.c from q2]
    simp only [fl] at hy
    split at hy
    · split at hy
      · rename_i v hv
        exact ⟨v, hv⟩
      · exact h.fin y z hy
    · exact h.fin y z hy
  · exact h1
theorem fen_c : ∀ (K : List Int) (s : Dv) (x : Int) (a : Nat), (K.foldl fenOne s).c x = some a → s.c x = some a
  | [], s, x, a, h => h
  | y :: K, s, x, a, h => by
    rw [List.foldl_cons] at h
    have h1 := fen_c K _ x a h
    simp only [fenOne] at h1
    split at h1
    · simp only [delU] at h1
      split at h1
      · cases h1
      · exact h1
    · exact h1
theorem fen_rest : ∀ (K : List Int) (s : Dv), (K.foldl fenOne s).steps = s.steps ∧ (K.foldl fenOne s).fuse = s.fuse ∧ (K.foldl fenOne s).dead = s.dead
  | [], s => ⟨rfl, rfl, rfl⟩
  | y :: K, s => by
    rw [List.foldl_cons]
    exact fen_rest K (fenOne s y)
theorem GoodK.fence {s : Dv} {N k : Nat} (h : GoodK s N k) : GoodK (fenceD s) N (k + 1) := by
  have h1 := h.step
  unfold fenceD
  split
  · obtain ⟨a, b, c, d, e, f, g, i⟩ := h1
    obtain ⟨r1, r2, r3⟩ := fen_same (keysL s.L.length s.f) (stepD s)
    obtain ⟨t1, t2, t3⟩ := fen_rest (keysL s.L.length s.f) (stepD s)
    refine ⟨by simp only []; omega, fun y z hy => b y z (fen_c _ _ y z hy), fun y z hy => (by cases hy), by simp only []; omega, by simp only []; omega, by simp only []; omega, by simp only []; omega, by simp only []; omega⟩
  · exact h1
theorem GoodK.evict {s : Dv} {N k : Nat} (h : GoodK s N k) (x : Int) : GoodK (evictD s x) N (k + 1) := by
  have h1 := h.step
  unfold evictD
  split
  · split
    · split
      · obtain ⟨a, b, c, d, e, f, g, i⟩ := h1
        refine ⟨by simp only [List.length_set]; exact h.len, fun y z hy => ?_, fun y z hy => ?_, d, e, f, g, i⟩
        · simp only [delU] at hy
          split at hy
          · cases hy
          · exact h.cin y z hy
        · simp only [delU] at hy ⊢
          split at hy
          · cases hy
          · rename_i hne
            rw [if_neg hne]
            exact h.fin y z hy
      · exact h1
    · exact h1
  · exact ⟨h.len, h.cin, h.fin, by have := h.n; omega, h.st0, by have := h.st; omega, h.fu0, h.fu⟩
theorem GoodK.fuseTo {s : Dv} {N k : Nat} (h : GoodK s N k) (m : Int) (hm : m ≤ 1099511627776) : GoodK (fuseD s m) N (k + 1) :=
  ⟨h.len, h.cin, h.fin, by have := h.n; simp only [fuseD]; omega, h.st0, by have := h.st; simp only [fuseD]; omega, by simp only [fuseD]; omega, by simp only [fuseD]; omega⟩
theorem GoodK.crash {s : Dv} {N k : Nat} (h : GoodK s N k) (keep : List Nat) : GoodK (crashD s keep) N (k + 1) :=
  ⟨by simp only [crashD]; rw [crL_len]; exact h.len, fun x a q => (by cases q), fun x a q => (by cases q), by have := h.n; simp only [crashD]; omega, h.st0, by have := h.st; simp only [crashD]; omega, Int.le_refl _, by simp only [crashD]; decide⟩

def a0 : Dv := dv0 [0, 0, 0]
def a1 : Dv := storeD a0 1 7
def a2 : Dv := flushD a1 1 1
def a3 : Dv := storeD a2 1 8
def a4 : Dv := fenceD a3
def a5 : Dv := crashD a4 [2]
theorem a_good : GoodD a0 ∧ GoodD a1 ∧ GoodD a2 ∧ GoodD a3 ∧ GoodD a4 ∧ GoodD a5 := by
  have h0 : GoodK a0 3 0 := GoodK.zero _
  have h1 : GoodK a1 3 1 := h0.store 1 7
  have h2 : GoodK a2 3 2 := h1.flush (by decide) 1 1
  have h3 : GoodK a3 3 3 := h2.store 1 8
  have h4 : GoodK a4 3 4 := h3.fence
  have h5 : GoodK a5 3 5 := h4.crash [2]
  exact ⟨h0.good (by decide) (by decide) (by decide), h1.good (by decide) (by decide) (by decide), h2.good (by decide) (by decide) (by decide), h3.good (by decide) (by decide) (by decide), h4.good (by decide) (by decide) (by decide), h5.good (by decide) (by decide) (by decide)⟩
theorem a_facts : a4.L = [0, 7, 0] ∧ loadD a4 1 = 8 ∧ a4.steps = 4 ∧ a5.L = [0, 8, 0] ∧ a5.dead = false ∧ keysL a5.L.length a5.c = [] := by
  refine ⟨by rfl, by rfl, by rfl, by rfl, by rfl, by rfl⟩
theorem kl_lit1 {F : Nat → Prop} {w w' : World} {b : Nat} {t : TypeId} (hF : ∀ k, F k → k < w.heap.size) (hc : Chg F (w.alloc (.cells #[.int .u8 (b : Nat)] t)) w') : KL .u8 w' (.slice (some ⟨w.heap.size, 0, none⟩) 1 1) [b] := by
  have hb := (hc.block w.heap.size (by simp) (fun q => by have := hF _ q; omega)).trans (World.alloc_heap_new w _)
  refine ⟨_, _, rfl, fun _ => ⟨_, 0, rfl, (Array.getElem?_eq_some_iff.1 hb).1, Nat.le_refl _, fun i hi => ?_⟩⟩
  simp only [List.length_singleton] at hi
  obtain rfl : i = 0 := by omega
  exact (cell_blk hb rfl).1

attribute [local irreducible] wpList in
set_option maxRecDepth 10000 in
set_option maxHeartbeats 4000000 in
theorem awake3_any (w : World) :
    Calls Try.prog 11 #[] w fun e w' => e = .returned (.bool true) ∧ Below w.heap.size w w' := by
  obtain ⟨g0, g1, g2, g3, g4, g5⟩ := a_good
  obtain ⟨z1, z2, z3, z4, z5, z6⟩ := a_facts
  have hNew : Calls Try.prog 28 #[.int .i64 3] w (OpenedP [0, 0, 0] w) := dNew 3 w (by decide) (by decide)
  go_enter Try.func11, Try.ntmps11
  go_wp2_with (first
    | (go_at_call 28; refine hNew.mono ?_; rintro e w1 ⟨B, F, rfl, hD0, hF, hb1⟩; clear hNew
       change DvAt w1 B F a0 at hD0)
    | (go_at_call 48; refine (dStore B F a0 1 7 _ hD0 g0).mono ?_; rintro e w2 ⟨rfl, hD1, hc1⟩; clear hD0; change DvAt w2 B F a1 at hD1
       have hb2 := hb1.trans (hc1.below hF hb1.size)
       clear hc1 hb1)
    | (go_at_call 49; refine (dFlush B F a1 1 1 _ hD1 g1 (by decide) (by decide)).mono ?_; rintro e w3 ⟨rfl, hD2, hc1⟩; clear hD1; change DvAt w3 B F a2 at hD2
       have hb3 := hb2.trans (hc1.below hF hb2.size)
       clear hc1 hb2)
    | (go_at_call 48; refine (dStore B F a2 1 8 _ hD2 g2).mono ?_; rintro e w4 ⟨rfl, hD3, hc1⟩; clear hD2; change DvAt w4 B F a3 at hD3
       have hb4 := hb3.trans (hc1.below hF hb3.size)
       clear hc1 hb3)
    | (go_at_call 50; refine (callsIn_wide.1 (fence_in 3 (by decide) B F a3 _ hD3 g3)).mono ?_; rintro e w5 ⟨rfl, hD4, hc1⟩; clear hD3; change DvAt w5 B F a4 at hD4
       have hb5 := hb4.trans (hc1.below hF hb4.size)
       clear hc1 hb4)
    | (go_at_call 25; refine (dImage B F a4 _ hD4 g4.len).mono ?_; rintro e w6 ⟨v1, rfl, ho1, hb⟩
       rw [z1] at ho1
       obtain ⟨A1, cap1, rfl, hA1⟩ := ho1.form
       obtain ⟨q1, rfl, hq1, _⟩ := hA1 (by decide)
       have hD5 := hD4.keep hb
       have hqF : ¬ F q1 := fun q => by have := hD4.lt q1 q; omega
       have hb6 := hb5.trans (hb.mono hb5.size)
       clear hD4 hb hb5 hA1)
    | (go_at_call 22; refine (dLoad B F a4 1 _ hD5 g4).mono ?_; rintro e w7 ⟨rfl, rfl⟩; rw [z2])
    | (go_at_call 18; refine (dSteps B F a4 _ hD5).mono ?_; rintro e w7 ⟨rfl, rfl⟩; rw [z3])
    | (go_at_call 51; refine (dCrash B F a4 _ [2] _ (hD5.keep ((Below.refl _ _).alloc (Nat.le_refl _) _)) g4 (by intro x hx; simp at hx; omega) (by decide) (fun w' hc => kl_lit1 hD5.lt hc)).mono ?_; rintro e w8 ⟨rfl, hD6, hc1⟩; change DvAt w8 B F a5 at hD6
       have ho2 := (ho1.keep ((Below.refl _ _).alloc (Nat.le_refl _) _)).chg hc1 (fun k e => by cases e; exact hqF)
       have hb8 := (hb6.trans (((Below.refl _ _).alloc (Nat.le_refl _) _).mono hb6.size)).trans (hc1.below hF (by rw [World.size_alloc]; have := hb6.size; omega))
       clear hc1 hb6 ho1 hD5)
    | (go_at_call 25; refine (dImage B F a5 _ hD6 g5.len).mono ?_; rintro e w9 ⟨v2, rfl, ho3, hb⟩
       rw [z4] at ho3
       obtain ⟨A2, cap2, rfl, hA2⟩ := ho3.form
       obtain ⟨q2, rfl, hq2, _⟩ := hA2 (by decide)
       have hD7 := hD6.keep hb
       have ho4 := ho2.keep hb
       have hb9 := hb8.trans (hb.mono hb8.size)
       have e1 := (ho4.cell rfl (i := 1) (by decide)).1
       have e2 := (ho3.cell rfl (i := 1) (by decide)).1
       clear hD6 hb hb8 hA2 ho2 ho4 ho3)
    | (go_at_call 17; refine (dDead B F a5 _ hD7).mono ?_; rintro e w7 ⟨rfl, rfl⟩; rw [z5])
    | (go_at_call 20; refine (dDirty B F a5 _ hD7 g5).mono ?_; rintro e w10 ⟨v3, rfl, ho5, hb⟩
       rw [z6] at ho5
       obtain ⟨A3, cap3, rfl, _⟩ := (ho5.el iE_len).form rfl
       have hb10 := hb9.trans (hb.mono hb9.size)
       clear hD7 hb hb9))
  go_ret
  exact ⟨rfl, hb10⟩
end Go.Proofs.Ytcemiclbeocnjaa
