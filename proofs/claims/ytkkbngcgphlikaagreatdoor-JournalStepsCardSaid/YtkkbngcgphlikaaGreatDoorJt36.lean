/-
  Part of the proof of JournalSteps.
-/
import Derived.Test.YtkkbngcgphlikaaGreatDoorJt35
import Derived.Test.YtkkbngcgphlikaaGreatDoorJt0
set_option maxRecDepth 10000
set_option maxHeartbeats 1000000
set_option linter.unusedVariables false
set_option linter.unusedSimpArgs false
section
namespace Go.Proofs.YtkkbngcgphlikaaGreatDoor
structure GoodJ (s : Dv) (N m : Nat) : Prop where
 len : s.L.length = N
 cin : ∀ x a, s.c x = some a → 0 ≤ x ∧ x < N
 fin : ∀ x a, s.f x = some a → ∃ b, s.c x = some b
 n : s.n ≤ m
 st0 : 0 ≤ s.steps
 st : s.steps ≤ m
 fu0 : 0 ≤ s.fuse
 fu : s.fuse ≤ 1099511627776
theorem GoodJ.good {s : Dv} {N m : Nat} (h : GoodJ s N m) (h1 : 1 ≤ N) (h2 : N ≤ 1000) (hm : m ≤ 100000) : GoodD s := by
 obtain ⟨a, b, c, d, e, f, g, i⟩ := h
 exact ⟨by omega, by omega, by rw [a]; exact b, c, by omega, e, by omega, g, i⟩
theorem GoodJ.mono {s : Dv} {N m m' : Nat} (h : GoodJ s N m) (hm : m ≤ m') : GoodJ s N m' :=
 ⟨h.len, h.cin, h.fin, Nat.le_trans h.n hm, h.st0, by have := h.st; omega, h.fu0, h.fu⟩
theorem GoodJ.zero (L : List Nat) : GoodJ (dv0 L) L.length 0 := ⟨rfl, fun x a h => (by cases h), fun x a h => (by cases h), Nat.le_refl _, Int.le_refl _, Int.le_refl _, Int.le_refl _, (by show (0 : Int) ≤ 1099511627776; decide)⟩
theorem GoodJ.step {s : Dv} {N m : Nat} (h : GoodJ s N m) : GoodJ (stepD s) N (m + 1) := by
 obtain ⟨a, b, c, d, e, f, g, i⟩ := h
 unfold stepD
 split
 ·exact ⟨a, b, c, by omega, e, by omega, g, i⟩
 split
 ·exact ⟨a, b, c, by simp only []; omega, e, by simp only []; omega, by simp only []; omega, by simp only []; omega⟩
 exact ⟨a, b, c, by simp only []; omega, by simp only []; omega, by simp only []; omega, by simp only []; omega, by simp only []; omega⟩
theorem GoodJ.store {s : Dv} {N m : Nat} (h : GoodJ s N m) (x : Int) (v : Nat) : GoodJ (storeD s x v) N (m + 1) := by
 have h1 := h.step
 unfold storeD
 split
 rotate_left
 ·exact h.mono (by omega)
 rename_i hx
 split
 rotate_left
 ·exact h1
 obtain ⟨a, b, c, d, e, f, g, i⟩ := h1
 obtain ⟨q1, q2, q3, q4⟩ := stepD_same s
 simp only [hasD, Bool.and_eq_true, decide_eq_true_eq] at hx
 have hl := h.len
 refine ⟨a, fun y z hy => ?_, fun y z hy => ?_, by have := h.n; simp only []; omega, e, f, g, i⟩
 ·simp only [putU] at hy
  split at hy
  ·omega
  exact h.cin y z hy
 simp only [putU]
 split
 ·exact ⟨_, rfl⟩
 rw [show ((stepD s).f) = s.f from q3] at hy
 exact h.fin y z hy
theorem GoodJ.flush {s : Dv} {N m : Nat} (h : GoodJ s N m) (hN : 1 ≤ N) (x k : Int) : GoodJ (flushD s x k) N (m + N) := by
 have h1 := h.step
 unfold flushD
 split
 rotate_left
 ·exact h1.mono (by omega)
 obtain ⟨a, b, c, d, e, f, g, i⟩ := h1
 obtain ⟨q1, q2, q3, q4⟩ := stepD_same s
 refine ⟨a, b, fun y z hy => ?_, by have := h.n; have := h.len; simp only []; omega, e, by simp only [] at f ⊢; omega, g, i⟩
 rw [show ((stepD s).c) = s.c from q2]
 simp only [fl] at hy
 split at hy
 ·split at hy
  ·rename_i v hv
   exact ⟨v, hv⟩
  exact h.fin y z hy
 exact h.fin y z hy
theorem fen_cJ : ∀ (K : List Int) (s : Dv) (x : Int) (a : Nat), (K.foldl fenOne s).c x = some a → s.c x = some a := fun K s x a h => by
 rw [fen_C] at h
 split at h
 ·cases h
 ·exact h
theorem fen_restJ : ∀ (K : List Int) (s : Dv), (K.foldl fenOne s).steps = s.steps ∧ (K.foldl fenOne s).fuse = s.fuse ∧ (K.foldl fenOne s).dead = s.dead
 | [], s => ⟨rfl, rfl, rfl⟩
 | y :: K, s => by
   rw [List.foldl_cons]
   exact fen_restJ K (fenOne s y)
theorem GoodJ.fence {s : Dv} {N m : Nat} (h : GoodJ s N m) : GoodJ (fenceD s) N (m + 1) := by
 have h1 := h.step
 unfold fenceD
 split
 ·obtain ⟨a, b, c, d, e, f, g, i⟩ := h1
  obtain ⟨r1, r2, r3⟩ := fen_same (keysL s.L.length s.f) (stepD s)
  obtain ⟨t1, t2, t3⟩ := fen_restJ (keysL s.L.length s.f) (stepD s)
  refine ⟨by simp only []; omega, fun y z hy => b y z (fen_cJ _ _ y z hy), fun y z hy => (by cases hy), by simp only []; omega, by simp only []; omega, by simp only []; omega, by simp only []; omega, by simp only []; omega⟩
 exact h1
theorem load_PV {s : Dv} {i : Nat} (hi : i < s.L.length) : PV s i (loadD s (i : Int)) := by
 unfold loadD hasD
 rw [decide_eq_true (show (0 : Int) ≤ (i : Int) by omega), decide_eq_true (show (i : Int) < s.L.length by omega)]
 simp only [Bool.and_self, if_true, Int.toNat_natCast]
 cases hc : s.c (i : Int) with
 | none => exact .inl rfl
 | some v => exact .inr (.inr hc)
theorem load_al {A : Nat → Nat → Prop} {s : Dv} (h : Al A s) {i : Nat} (hi : i < s.L.length) : A i (loadD s (i : Int)) := h i hi _ (load_PV hi)
def viewD (s : Dv) : List Nat := (List.range s.L.length).map fun i => loadD s (i : Nat)
theorem view_len (s : Dv) : (viewD s).length = s.L.length := by unfold viewD; rw [List.length_map, List.length_range]
theorem view_at (s : Dv) {i : Nat} (hi : i < s.L.length) : (viewD s).getD i 0 = loadD s (i : Int) := by
 unfold viewD
 rw [List.getD_eq_getElem?_getD, List.getElem?_map, List.getElem?_range hi]
 rfl
theorem load_of {s s' : Dv} (hL : s'.L.length = s.L.length) (h : ∀ i : Nat, i < s.L.length → (s'.c (i : Int)).getD (s'.L.getD i 0) = (s.c (i : Int)).getD (s.L.getD i 0)) (x : Int) : loadD s' x = loadD s x := by
 unfold loadD hasD
 rw [hL]
 by_cases h0 : (0 : Int) ≤ x
 ·by_cases h1 : x < s.L.length
  ·obtain ⟨i, rfl⟩ := Int.eq_ofNat_of_zero_le h0
   rw [decide_eq_true h0, decide_eq_true h1]
   simp only [Bool.and_self, if_true, Int.toNat_natCast]
   exact h i (by omega)
  rw [decide_eq_false h1]; simp
 rw [decide_eq_false h0]; simp
theorem load_step (s : Dv) (x : Int) : loadD (stepD s) x = loadD s x := by
 obtain ⟨q1, q2, q3, -⟩ := stepD_same s
 exact load_of (by rw [q1]) (fun i _ => by rw [q1, q2]) x
theorem load_flush (s : Dv) (y m x : Int) : loadD (flushD s y m) x = loadD s x := by
 obtain ⟨q1, q2⟩ := flush_L s y m
 exact load_of (by rw [q1]) (fun i _ => by rw [q1, q2]) x
theorem load_fence {s : Dv} {N m : Nat} (h : GoodJ s N m) (x : Int) : loadD (fenceD s) x = loadD s x := by
 cases hd : doneD s with
 | false => unfold fenceD; rw [if_neg (by rw [hd]; decide)]; exact load_step s x
 | true =>
   obtain ⟨h1, h2, h3, h4⟩ := fence_of hd
   refine load_of h4 (fun i hi => ?_) x
   rw [h2 i hi, h3 i hi]
   cases hf : s.f (i : Int) with
   | none => rw [if_neg (fun q => by cases q.1)]; rfl
   | some v =>
     obtain ⟨b, hb⟩ := h.fin _ _ hf
     rw [hb]
     by_cases e : b = v
     ·subst e; rw [if_pos ⟨rfl, rfl⟩]; rfl
     rw [if_neg (fun q => e q.2)]; rfl
theorem load_store_ne (s : Dv) (y : Int) (v : Nat) {x : Int} (hxy : ¬ x = y) : loadD (storeD s y v) x = loadD s x := by
 obtain ⟨q1, q2, q3⟩ := store_L s y v
 unfold loadD hasD
 rw [q1, q3 x hxy]
theorem alive_store {s : Dv} {x : Int} {v : Nat} (h : (storeD s x v).dead = false) : s.dead = false := by
 cases hd : s.dead with
 | false => rfl
 | true => rw [dead_store hd, hd] at h; cases h
theorem alive_flush {s : Dv} {x m : Int} (h : (flushD s x m).dead = false) : s.dead = false := by
 cases hd : s.dead with
 | false => rfl
 | true => rw [dead_flush hd, hd] at h; cases h
theorem alive_fence {s : Dv} (h : (fenceD s).dead = false) : s.dead = false := by
 cases hd : s.dead with
 | false => rfl
 | true => rw [dead_fence hd, hd] at h; cases h
def layD (s : Dv) (x : Int) (v : Nat) : Dv := fenceD (flushD (storeD s x v) x 1)
theorem lay_cl {s : Dv} {x v : Nat} (h : (layD s (x : Int) v).dead = false) (hx : x < s.L.length) : (layD s (x : Int) v).L.getD x 0 = v ∧ (layD s (x : Int) v).c (x : Int) = none ∧ ∀ u, PV (layD s (x : Int) v) x u → u = v := by
 have hh : hasD s (x : Int) = true := by unfold hasD; rw [decide_eq_true (show (0 : Int) ≤ (x : Int) by omega), decide_eq_true (show (x : Int) < s.L.length by omega)]; rfl
 have h1 := alive_fence h
 have h2 := alive_flush h1
 obtain ⟨-, q1, q2, -, -⟩ := store_of h2 hh
 have hc : (storeD s (x : Int) v).c (x : Int) = some v := by rw [q2]; unfold putU; rw [if_pos rfl]
 obtain ⟨p1, p2⟩ := flush_L (storeD s (x : Int) v) (x : Int) 1
 have hf := flush_in h1 (i := x) (by rw [q1]; exact hx) (by omega) (by omega) hc
 exact fence_cl h (by rw [p1, q1]; exact hx) hf (by rw [p2]; exact hc)
theorem Al.lay {A : Nat → Nat → Prop} {s : Dv} (h : Al A s) (x : Int) (v : Nat) (hA : ∀ i : Nat, x = (i : Int) → i < s.L.length → A i v) : Al A (layD s x v) := ((h.store x v hA).flush x 1).fence
theorem GoodJ.lay {s : Dv} {N m : Nat} (h : GoodJ s N m) (hN : 1 ≤ N) (x : Int) (v : Nat) : GoodJ (layD s x v) N (m + N + 2) := (((h.store x v).flush hN x 1).fence).mono (by omega)
theorem load_lay_ne {s : Dv} {N m : Nat} (h : GoodJ s N m) (hN : 1 ≤ N) (y : Int) (v : Nat) {x : Int} (hxy : ¬ x = y) : loadD (layD s y v) x = loadD s x := by
 unfold layD
 rw [load_fence ((h.store y v).flush hN y 1), load_flush, load_store_ne s y v hxy]
theorem lay_len (s : Dv) (x : Int) (v : Nat) : (layD s x v).L.length = s.L.length := by
 unfold layD
 rw [fence_len, (flush_L _ _ _).1, (store_L _ _ _).1]
theorem steps_step {s : Dv} (hd : s.dead = false) (hf : s.fuse = 0) : (stepD s).steps = s.steps + 1 ∧ (stepD s).dead = false ∧ (stepD s).fuse = 0 ∧ doneD s = true := by
 unfold stepD doneD
 rw [hd, hf]
 exact ⟨rfl, rfl, rfl, rfl⟩
theorem steps_store {s : Dv} (hd : s.dead = false) (hf : s.fuse = 0) {x : Int} (hx : hasD s x = true) (v : Nat) : (storeD s x v).steps = s.steps + 1 ∧ (storeD s x v).dead = false ∧ (storeD s x v).fuse = 0 := by
 obtain ⟨h1, h2, h3, h4⟩ := steps_step hd hf
 unfold storeD
 rw [if_pos hx, if_pos h4]
 exact ⟨h1, h2, h3⟩
theorem steps_flush {s : Dv} (hd : s.dead = false) (hf : s.fuse = 0) (x m : Int) : (flushD s x m).steps = s.steps + 1 ∧ (flushD s x m).dead = false ∧ (flushD s x m).fuse = 0 := by
 obtain ⟨h1, h2, h3, h4⟩ := steps_step hd hf
 unfold flushD
 rw [if_pos h4]
 exact ⟨h1, h2, h3⟩
theorem steps_fence {s : Dv} (hd : s.dead = false) (hf : s.fuse = 0) : (fenceD s).steps = s.steps + 1 ∧ (fenceD s).dead = false ∧ (fenceD s).fuse = 0 := by
 obtain ⟨h1, h2, h3, h4⟩ := steps_step hd hf
 obtain ⟨t1, t2, t3⟩ := fen_restJ (keysL s.L.length s.f) (stepD s)
 unfold fenceD
 rw [if_pos h4]
 exact ⟨t1.trans h1, t3.trans h2, t2.trans h3⟩
theorem steps_lay {s : Dv} (hd : s.dead = false) (hf : s.fuse = 0) {x : Int} (hx : hasD s x = true) (v : Nat) : (layD s x v).steps = s.steps + 3 ∧ (layD s x v).dead = false ∧ (layD s x v).fuse = 0 := by
 obtain ⟨a1, a2, a3⟩ := steps_store hd hf hx v
 obtain ⟨b1, b2, b3⟩ := steps_flush a2 a3 x 1
 obtain ⟨c1, c2, c3⟩ := steps_fence b2 b3
 exact ⟨by show (fenceD _).steps = _; rw [c1, b1, a1]; omega, c2, c3⟩
end Go.Proofs.YtkkbngcgphlikaaGreatDoor
end
section
namespace Go.Proofs.YtkkbngcgphlikaaGreatDoor
open Go.Lib Go.RowKit Go.ChangeShapes Go.WideShapes Go.Deep Go.Shelf
def flushL (s : Dv) (l : List Sp) : Dv := l.foldl (fun s x => flushD s x.1 x.2) s
def fenceL (s : Dv) (l : List Sp) : Dv := fenceD (flushL s l)
theorem flushL_take (s : Dv) (l : List Sp) (k : Nat) (hk : k < l.length) : flushL s (l.take (k + 1)) = flushD (flushL s (l.take k)) (l.getD k (0, 0)).1 (l.getD k (0, 0)).2 := by
 unfold flushL
 rw [List.take_succ_eq_append_getElem hk, List.foldl_append, List.getD_eq_getElem?_getD, List.getElem?_eq_getElem hk]
 rfl
theorem GoodJ.flushes {N : Nat} (hN : 1 ≤ N) : ∀ (l : List Sp) {s : Dv} {m : Nat}, GoodJ s N m → GoodJ (flushL s l) N (m + l.length * N)
 | [], s, m, h => by simpa [flushL] using h
 | x :: l, s, m, h => by
   have h1 := GoodJ.flushes hN l (h.flush hN x.1 x.2)
   have e : m + N + l.length * N = m + (x :: l).length * N := by rw [List.length_cons, Nat.succ_mul]; omega
   rw [e] at h1
   exact h1
theorem GoodJ.fences {N : Nat} (hN : 1 ≤ N) (l : List Sp) {s : Dv} {m : Nat} (h : GoodJ s N m) : GoodJ (fenceL s l) N (m + l.length * N + 1) := (GoodJ.flushes hN l h).fence
theorem GoodJ.pre {N : Nat} (hN : 1 ≤ N) (l : List Sp) {s : Dv} {m : Nat} (h : GoodJ s N m) (k : Nat) : GoodJ (flushL s (l.take k)) N (m + l.length * N) :=
 (GoodJ.flushes hN (l.take k) h).mono (by
   have : (l.take k).length * N ≤ l.length * N := Nat.mul_le_mul_right _ (List.length_take_le' _ _)
   omega)
def PS (l : List Sp) : Prop := ∀ x ∈ l, (-1099511627776 ≤ x.1 ∧ x.1 ≤ 1099511627776) ∧ -1099511627776 ≤ x.2 ∧ x.2 ≤ 1099511627776
theorem jFence (B : Nat) (F : Nat → Prop) (s : Dv) (N m : Nat) (v : Value) (l : List Sp) (w : World) (h : DvAt w B F s) (hg : GoodJ s N m) (hN : 1 ≤ N) (hN2 : N ≤ 1000) (hm : m + l.length * N ≤ 100000) (hP : ∀ w', Chg F w w' → PL w' v l) (hb : PS l) (hl : l.length ≤ 100000) :
 Calls Tryz.prog 55 #[.pointer (some ⟨B, 0, none⟩), v] w fun e w' => e = .returned (.tuple #[]) ∧ DvAt w' B F (fenceL s l) ∧ Chg F w w' := by
 obtain ⟨n, hn⟩ : ∃ n, l.length = n := ⟨_, rfl⟩
 obtain ⟨A, c, rfl, -⟩ := (hP w (Chg.refl F w)).form hn
 have hGd := lh (fun k => (GoodJ.pre hN l hg k).good hN hN2 hm)
 have hst := lh (fun k (hk : k < n) => flushL_take s l k (by omega))
 have hbk := lh (fun k (hk : k < n) => hb (l.getD k (0, 0)) (by rw [List.getD_eq_getElem?_getD, List.getElem?_eq_getElem (by omega)]; exact List.getElem_mem _))
 have hta := lh (show l.take n = l from List.take_of_length_le (by omega))
 have h0 := lh (show flushL s (l.take 0) = s from rfl)
 rw [hn] at hm hl
 replace hP := lh (fun w' (hc : Chg F w w') => (hP w' hc).form hn)
 replace hn := lh hn
 clear hg hb
 go_enter Tryz.func55, Tryz.ntmps55
 go_wp2_with fail
 go_loopw [8] (fun i wr => ∃ (k : Nat), k ≤ n ∧ i = .int .i64 (k : Nat) ∧ DvAt wr B F (flushL s (l.take k)) ∧ Chg F w wr) (fun i _ => n + 1 - (intOf i).toNat)
 case atStart => exact ⟨0, Nat.zero_le _, rfl, h, Chg.refl F w⟩
 obtain ⟨k, hk, rfl, hD, hc⟩ := hrel
 clear h
 by_cases hkn : k < n
 rotate_left
 ·obtain rfl : n = k := by omega
  have hkn' : ¬ (n : Int) < (n : Int) := by omega
  have hG1 := hGd.out n
  rw [hta.out] at hD hG1
  have hFe := callsIn_wide.1 (fence_in 3 (by decide) B F _ wr hD hG1)
  go_wp2_with fail
  refine hFe.mono ?_
  rintro e w2 ⟨rfl, hD2, hc2⟩
  have hc3 := hc.trans hc2 (fun j q => .inl q)
  go_wp2_with fail
  go_end0
  exact ⟨rfl, hD2, hc3⟩
 have hkn' : (k : Int) < (n : Int) := by omega
 obtain ⟨A1, c1, hv1, hF⟩ := hP.out wr hc
 cases hv1
 obtain ⟨g, off, rfl, hcap, hgs, k0, k1⟩ := hF wr k (Below.refl _ _) hkn
 have hst1 := hst.out k hkn
 obtain ⟨b1, b2⟩ := hbk.out k hkn
 have hG1 := hGd.out k
 generalize l.getD k (0, 0) = x at *
 obtain ⟨xa, xm⟩ := x
 simp only [] at k0 k1 hst1 b1 b2
 have eA := bZ wr (.cells #[.int .i64 xa, .int .i64 xm] 70)
 have gS := HB.new wr #[.int .i64 xa, .int .i64 xm] 70
 obtain ⟨w1, hw1⟩ : ∃ z, wr.alloc (.cells #[.int .i64 xa, .int .i64 xm] 70) = z := ⟨_, rfl⟩
 rw [hw1] at eA gS
 have hD1 := hD.keep eA
 have hc1 := hc.trans (Chg.of_below F eA) (fun j q => .inl q)
 obtain ⟨c2, c3⟩ := gS.c2
 have hFl := dFlush B F _ xa xm w1 hD1 hG1 b1 b2
 clear hF hD eA gS
 subst hw1
 go_wp2_with fail
 refine hFl.mono ?_
 rintro e w2 ⟨rfl, hD2, hc2⟩
 rw [← hst1] at hD2
 have hc3 := hc1.trans hc2 (fun j q => .inl q)
 clear hFl hD1 hc1 hc2 hc
 go_wp2_with fail
 go_roundw
 case rel => exact ⟨k + 1, by omega, by go_num, hD2, hc3⟩
 first | (simp [intOf]; done) | (simp [intOf]; omega)
theorem layD_L (s : Dv) (x : Int) (v : Nat) : layD s x v = fenceL (storeD s x v) [(x, 1)] := rfl
theorem jLay (B : Nat) (F : Nat → Prop) (s : Dv) (N m : Nat) (x : Int) (y : Nat) (w : World) (h : DvAt w B F s) (hg : GoodJ s N m) (hN : 1 ≤ N) (hN2 : N ≤ 1000) (hm : m + N + 2 ≤ 100000) (hx : -1099511627776 ≤ x ∧ x ≤ 1099511627776) :
 Calls Tryz.prog 90 #[.pointer (some ⟨B, 0, none⟩), .int .i64 x, .int .u64 (y : Nat)] w fun e w' => e = .returned (.tuple #[]) ∧ DvAt w' B F (layD s x y) ∧ Chg F w w' := by
 have hS := dStore B F s x y w h (hg.good hN hN2 (by omega))
 have hlt := lh (fun w1 (q : DvAt w1 B F (storeD s x y)) => q.lt)
 have hFe := lh (fun w1 (q : DvAt w1 B F (storeD s x y)) => jFence B F (storeD s x y) N (m + 1) (.slice (some ⟨w1.heap.size, 0, none⟩) 1 1) [(x, 1)] (w1.alloc (.cells #[.int .i64 x, .int .i64 1] (70 : Nat))) (q.keep (bZ _ _)) (hg.store x y) hN hN2 (by simp; omega)
  (fun w' hc => by
    have hl := PL.lit w1 [(x, 1)] (by simp)
    have hl2 : PL (w1.alloc (.cells #[.int .i64 x, .int .i64 1] (70 : Nat))) (.slice (some ⟨w1.heap.size, 0, none⟩) 1 1) [(x, 1)] := hl
    obtain ⟨A, c, hv, hk⟩ := hl2
    refine ⟨A, c, hv, fun hp => ?_⟩
    obtain ⟨g, off, hA, hgs, hcp, hi⟩ := hk hp
    rw [hA] at hv
    cases hv
    have hnF : ¬ F w1.heap.size := fun z => by have := hlt.out w1 q _ z; omega
    refine ⟨_, _, hA, Nat.lt_of_lt_of_le hgs hc.size, hcp, fun i hil => ?_⟩
    rw [World.cell?_of_block (hc.block _ hgs hnF), World.cell?_of_block (hc.block _ hgs hnF)]
    exact hi i hil)
  (fun z hz => by rw [List.mem_singleton] at hz; subst hz; exact ⟨hx, by show (-1099511627776 : Int) ≤ 1 ∧ (1 : Int) ≤ 1099511627776; omega⟩) (by simp))
 clear h hg
 go_enter Tryz.func90, Tryz.ntmps90
 go_wp2_with fail
 refine hS.mono ?_
 rintro e w1 ⟨rfl, hD1, hc1⟩
 have hF1 := hFe.out w1 hD1
 have eA := bZ w1 (.cells #[.int .i64 x, .int .i64 1] (70 : Nat))
 have hc2 := hc1.trans (Chg.of_below F eA) (fun j q => .inl q)
 clear hS hFe hc1 eA
 go_wp2_with fail
 refine hF1.mono ?_
 rintro e w2 ⟨rfl, hD2, hc3⟩
 have hc4 := hc2.trans hc3 (fun j q => .inl q)
 rw [← layD_L] at hD2
 go_wp2_with fail
 go_end0
 exact ⟨rfl, hD2, hc4⟩
def curS (x : Nat) : Nat := if mkOk x = true then mkS x else 0
def curC (x : Nat) : Nat := if mkOk x = true then mkC x else 0
def curG (x : Nat) : Nat := if mkOk x = true then mkG x else 0
theorem HB.setC {w : World} {b : Nat} {cs : Array Value} {t : TypeId} (h : HB w b cs t) (i : Nat) (v : Value) : HB (w.setCell ⟨b, i, none⟩ v) b (cs.setIfInBounds i v) t := heap_setCell_same w b i cs t v h
theorem st3_at {w : World} {b : Nat} {x y z x' y' z' : Value} {t : TypeId} (h : HB w b #[x, y, z] t) :
 (((w.setCell ⟨b, 0, none⟩ x').setCell ⟨b, 1, none⟩ y').setCell ⟨b, 2, none⟩ z').cell? ⟨b, 0, none⟩ = some x' ∧ (((w.setCell ⟨b, 0, none⟩ x').setCell ⟨b, 1, none⟩ y').setCell ⟨b, 2, none⟩ z').cell? ⟨b, 1, none⟩ = some y' ∧ (((w.setCell ⟨b, 0, none⟩ x').setCell ⟨b, 1, none⟩ y').setCell ⟨b, 2, none⟩ z').cell? ⟨b, 2, none⟩ = some z' := by
 have g : HB _ b #[x', y', z'] t := ((h.setC 0 x').setC 1 y').setC 2 z'
 exact ⟨(row_cell g 0).1, (row_cell g 1).1, (row_cell g 2).1⟩
theorem jMkdec (x : Nat) (w : World) (hx : x < 18446744073709551616) :
 Calls Tryz.prog 123 #[.int .u64 (x : Nat)] w fun e w' => e = .returned (.tuple #[.agg #[.int .i64 (curS x : Nat), .int .i64 (curC x : Nat), .int .u64 (curG x : Nat)], .bool (mkOk x)]) ∧ Below w.heap.size w w' := by
 have e : mkOk x = okB ((x : Int) % 4) ((x : Int) / 4 % 16384) ((x : Int) / 65536) := by
  unfold mkOk mkS mkC mkG
  rfl
 unfold curS curC curG
 cases h : mkOk x with
 | true =>
   refine (decode_t (x : Nat) w (by omega) (by omega) (by rw [← e, h])).mono ?_
   rintro e1 w' ⟨rfl, hb⟩
   refine ⟨?_, hb⟩
   rw [if_pos rfl, if_pos rfl, if_pos rfl, show ((mkS x : Nat) : Int) = (x : Int) % 4 from by unfold mkS; omega, show ((mkC x : Nat) : Int) = (x : Int) / 4 % 16384 from by unfold mkC; omega, show ((mkG x : Nat) : Int) = (x : Int) / 65536 from by unfold mkG; omega]
 | false =>
   refine (decode_f (x : Nat) w (by omega) (by omega) (by rw [← e, h])).mono ?_
   rintro e1 w' ⟨rfl, hb⟩
   exact ⟨rfl, hb⟩
theorem jCurrent (B : Nat) (F : Nat → Prop) (s : Dv) (N L ln : Nat) (w : World) (h : DvAt w B F s) (hg : GoodD s) (hlk : lOk (N : Nat) (L : Nat) (ln : Nat) = true) (hxb : loadD s (10 + (ln : Int)) < 18446744073709551616) :
 Calls Tryz.prog 70 #[.pointer (some ⟨B, 0, none⟩), .agg #[.int .i64 (N : Nat), .int .i64 (L : Nat)], .int .i64 (ln : Nat)] w fun e w' => e = .returned (.agg #[.int .i64 (curS (loadD s (10 + (ln : Int))) : Nat), .int .i64 (curC (loadD s (10 + (ln : Int))) : Nat), .int .u64 (curG (loadD s (10 + (ln : Int))) : Nat)]) ∧ Below w.heap.size w w' := by
 have hMk := lh (fun w1 => mark_t (N : Nat) (L : Nat) (ln : Nat) w1 hlk)
 have hLd := lh (fun w1 (q : Below w.heap.size w w1) => dLoad B F s (10 + (ln : Int)) w1 (h.keep q) hg)
 obtain ⟨x, hx⟩ : ∃ x, loadD s (10 + (ln : Int)) = x := ⟨_, rfl⟩
 rw [hx] at hLd hxb ⊢
 have hDc := lh (fun w1 => jMkdec x w1 hxb)
 obtain ⟨sx, hsx⟩ : ∃ a, curS x = a := ⟨_, rfl⟩
 obtain ⟨cx, hcx⟩ : ∃ a, curC x = a := ⟨_, rfl⟩
 obtain ⟨gx, hgx⟩ : ∃ a, curG x = a := ⟨_, rfl⟩
 rw [hsx, hcx, hgx] at hDc ⊢
 clear hx hsx hcx hgx h hg hlk
 have hb0 := bZ w (.cells #[.int .i64 (N : Nat), .int .i64 (L : Nat)] 37)
 have gG := HB.new w #[.int .i64 (N : Nat), .int .i64 (L : Nat)] 37
 obtain ⟨wb1, hwb1⟩ : ∃ x, w.alloc (.cells #[.int .i64 (N : Nat), .int .i64 (L : Nat)] 37) = x := ⟨_, rfl⟩
 have hswb1 : wb1.heap.size = w.heap.size + 1 := by rw [← hwb1]; simp
 rw [hwb1] at hb0 gG
 have hB : Below w.heap.size w wb1 := hb0
 have hb1 := bZ wb1 (.cells #[.int .i64 0, .int .i64 0, .int .u64 0] 123)
 have gZ := HB.new wb1 #[.int .i64 0, .int .i64 0, .int .u64 0] 123
 obtain ⟨wb2, hwb2⟩ : ∃ x, wb1.alloc (.cells #[.int .i64 0, .int .i64 0, .int .u64 0] 123) = x := ⟨_, rfl⟩
 have hswb2 : wb2.heap.size = w.heap.size + 2 := by rw [← hwb2]; simp; omega
 rw [hwb2] at hb1 gZ
 rw [hswb1] at gZ
 replace gG := gG.keep hb1
 replace hB := hB.trans (hb1.mono (by omega))
 obtain ⟨C, hC⟩ : ∃ C, w.heap.size = C := ⟨_, rfl⟩
 rw [hC] at gG gZ hswb1 hswb2
 clear hb0 hb1
 obtain ⟨q0, q1⟩ := gG.c2
 go_enter Tryz.func70, Tryz.ntmps70
 go_wp2_with fail
 refine (hMk.out _).mono ?_
 rintro e w1 ⟨rfl, hb1⟩
 have hB1 := hB.trans (hb1.mono hB.size)
 have gZ1 := gZ.keep hb1
 have hLd1 := hLd.out w1 hB1
 clear hMk hLd hb1 hB gZ gG q0 q1
 go_wp2_with fail
 refine hLd1.mono ?_
 rintro e w2 ⟨rfl, rfl⟩
 clear hLd1
 go_wp2_with fail
 refine (hDc.out _).mono ?_
 rintro e w3 ⟨rfl, hb3⟩
 have hB3 := hB1.trans (hb3.mono hB1.size)
 have gZ3 := gZ1.keep hb3
 have e4 := bZ w3 (.cells #[.int .i64 (sx : Nat), .int .i64 (cx : Nat), .int .u64 (gx : Nat)] 123)
 have gM := HB.new w3 #[.int .i64 (sx : Nat), .int .i64 (cx : Nat), .int .u64 (gx : Nat)] 123
 have gZ4 := gZ3.keep e4
 have hB4 := hB3.trans (e4.mono hB3.size)
 obtain ⟨m0, n0⟩ := row_cell gM 0
 obtain ⟨m1, n1⟩ := row_cell gM 1
 obtain ⟨m2, n2⟩ := row_cell gM 2
 obtain ⟨a0, b0⟩ := row_cell gZ4 0
 obtain ⟨a1, b1⟩ := row_cell gZ4 1
 obtain ⟨a2, b2⟩ := row_cell gZ4 2
 obtain ⟨d0, d1, d2⟩ := st3_at (x' := .int .i64 (sx : Nat)) (y' := .int .i64 (cx : Nat)) (z' := .int .u64 (gx : Nat)) gZ4
 have hCw : w.heap.size ≤ C + 1 := by omega
 have hBe := ((hB4.setCell (p := ⟨C + 1, 0, none⟩) hCw (.int .i64 (sx : Nat))).setCell (p := ⟨C + 1, 1, none⟩) hCw (.int .i64 (cx : Nat))).setCell (p := ⟨C + 1, 2, none⟩) hCw (.int .u64 (gx : Nat))
 clear hDc hb3 hB3 gZ1 gZ3 e4 hB1 gM gZ4 hB4
 go_wp2_with fail
 refine bodyPost_ret (v := .agg #[.int .i64 (sx : Nat), .int .i64 (cx : Nat), .int .u64 (gx : Nat)]) (by simp [results, Tryz.results70, go_sem, d0, d1, d2]) rfl ⟨rfl, hBe⟩
theorem jLayMark (B : Nat) (F : Nat → Prop) (s : Dv) (N L ln m : Nat) (a b g : Nat) (w : World) (h : DvAt w B F s) (hg : GoodJ s N m) (hN : 1 ≤ N) (hN2 : N ≤ 1000) (hm : m + N + 2 ≤ 100000) (hlk : lOk (N : Nat) (L : Nat) (ln : Nat) = true) (hln : ln ≤ 1000) (hok : okB (a : Nat) (b : Nat) (g : Nat) = true) (ha : a + b * 4 + g * 65536 < 18446744073709551616) :
 Calls Tryz.prog 69 #[.pointer (some ⟨B, 0, none⟩), .agg #[.int .i64 (N : Nat), .int .i64 (L : Nat)], .int .i64 (ln : Nat), .agg #[.int .i64 (a : Nat), .int .i64 (b : Nat), .int .u64 (g : Nat)]] w fun e w' => e = .returned (.tuple #[]) ∧ DvAt w' B F (layD s (10 + (ln : Int)) (a + b * 4 + g * 65536)) ∧ Chg F w w' := by
 have hMk := lh (fun w1 => mark_t (N : Nat) (L : Nat) (ln : Nat) w1 hlk)
 have hEn := lh (fun w1 => encode_t (a : Nat) (b : Nat) (g : Nat) w1 hok (by omega))
 obtain ⟨y, hy⟩ : ∃ y, a + b * 4 + g * 65536 = y := ⟨_, rfl⟩
 have hyI : (a : Int) + (b : Int) * 4 + (g : Int) * 65536 = (y : Int) := by omega
 rw [hyI] at hEn
 rw [hy]
 have hLy := lh (fun w1 (q : DvAt w1 B F s) => jLay B F s N m (10 + (ln : Int)) y w1 q hg hN hN2 hm (by omega))
 have hDv := lh (fun w1 (q : Below w.heap.size w w1) => h.keep q)
 clear h hg hlk hok hy hyI ha
 have hb0 := bZ w (.cells #[.int .i64 (N : Nat), .int .i64 (L : Nat)] 37)
 have gG := HB.new w #[.int .i64 (N : Nat), .int .i64 (L : Nat)] 37
 obtain ⟨wb1, hwb1⟩ : ∃ x, w.alloc (.cells #[.int .i64 (N : Nat), .int .i64 (L : Nat)] 37) = x := ⟨_, rfl⟩
 have hswb1 : wb1.heap.size = w.heap.size + 1 := by rw [← hwb1]; simp
 rw [hwb1] at hb0 gG
 have hB : Below w.heap.size w wb1 := hb0
 have hb1 := bZ wb1 (.cells #[.int .i64 (a : Nat), .int .i64 (b : Nat), .int .u64 (g : Nat)] 123)
 have gM := HB.new wb1 #[.int .i64 (a : Nat), .int .i64 (b : Nat), .int .u64 (g : Nat)] 123
 obtain ⟨wb2, hwb2⟩ : ∃ x, wb1.alloc (.cells #[.int .i64 (a : Nat), .int .i64 (b : Nat), .int .u64 (g : Nat)] 123) = x := ⟨_, rfl⟩
 have hswb2 : wb2.heap.size = w.heap.size + 2 := by rw [← hwb2]; simp; omega
 rw [hwb2] at hb1 gM
 rw [hswb1] at gM
 replace gG := gG.keep hb1
 replace hB := hB.trans (hb1.mono (by omega))
 obtain ⟨C, hC⟩ : ∃ C, w.heap.size = C := ⟨_, rfl⟩
 rw [hC] at gG gM hswb1 hswb2
 clear hb0 hb1
 obtain ⟨m0, n0⟩ := row_cell gM 0
 obtain ⟨m1, n1⟩ := row_cell gM 1
 obtain ⟨m2, n2⟩ := row_cell gM 2
 clear n0 n1 n2
 go_enter Tryz.func69, Tryz.ntmps69
 go_wp2_with fail
 refine (hEn.out _).mono ?_
 rintro e w1 ⟨rfl, hb1⟩
 have hB1 := hB.trans (hb1.mono hB.size)
 have gG1 := gG.keep hb1
 obtain ⟨q0, q1⟩ := gG1.c2
 clear hEn hb1 hB gG gM m0 m1 m2
 go_wp2_with fail
 refine (hMk.out _).mono ?_
 rintro e w2 ⟨rfl, hb2⟩
 have hB2 := hB1.trans (hb2.mono hB1.size)
 have hL2 := hLy.out w2 (hDv.out w2 hB2)
 clear hMk hLy hDv hb2 hB1 gG1 q0 q1
 go_wp2_with fail
 refine hL2.mono ?_
 rintro e w3 ⟨rfl, hD3, hc3⟩
 have hc4 := (Chg.of_below F hB2).trans hc3 (fun j q => .inl q)
 go_wp2_with fail
 go_end0
 exact ⟨rfl, hD3, hc4⟩
def putV (s : Dv) (X : List Nat) (x : Int) : List Nat := X.set x.toNat (loadD s x)
theorem putV_len (s : Dv) : ∀ (K : List Int) (X : List Nat), (K.foldl (putV s) X).length = X.length
 | [], X => rfl
 | x :: K, X => by rw [List.foldl_cons, putV_len s K]; unfold putV; rw [List.length_set]
theorem putV_at (s : Dv) : ∀ (K : List Int) (X : List Nat), (∀ x ∈ K, 0 ≤ x ∧ x < X.length) → ∀ i : Nat, (K.foldl (putV s) X).getD i 0 = if (i : Int) ∈ K then loadD s (i : Int) else X.getD i 0
 | [], X, _, i => by simp
 | x :: K, X, hK, i => by
   obtain ⟨h1, h2⟩ := hK x (List.mem_cons_self ..)
   have hlen : (putV s X x).length = X.length := by unfold putV; rw [List.length_set]
   rw [List.foldl_cons, putV_at s K (putV s X x) (fun y hy => by rw [hlen]; exact hK y (List.mem_cons_of_mem _ hy)) i]
   have hg : (putV s X x).getD i 0 = if (i : Int) = x then loadD s x else X.getD i 0 := by
    unfold putV
    rw [List.getD_eq_getElem?_getD, List.getElem?_set, List.getD_eq_getElem?_getD]
    by_cases e : (i : Int) = x
    ·rw [if_pos e, if_pos (by omega), if_pos (by omega)]; rfl
    ·rw [if_neg e, if_neg (by omega)]
   rw [hg]
   by_cases m : (i : Int) ∈ K
   ·rw [if_pos m, if_pos (List.mem_cons_of_mem _ m)]
   ·rw [if_neg m]
    by_cases e : (i : Int) = x
    ·rw [if_pos e, if_pos (by rw [e]; exact List.mem_cons_self ..), e]
    ·rw [if_neg e, if_neg (fun q => by
      rcases List.mem_cons.1 q with q | q
      ·exact e q
      ·exact m q)]
theorem view_fold (s : Dv) : (keysL s.L.length s.c).foldl (putV s) s.L = viewD s := by
 refine List.ext_getElem (by rw [putV_len, view_len]) (fun i h1 h2 => ?_)
 have hi : i < s.L.length := by rw [putV_len] at h1; exact h1
 have e1 := putV_at s (keysL s.L.length s.c) s.L (fun x hx => by have := (keys_in _ _ _).1 hx; exact ⟨this.1, this.2.1⟩) i
 have e2 := view_at s hi
 rw [List.getD_eq_getElem?_getD, List.getElem?_eq_getElem h1] at e1
 rw [List.getD_eq_getElem?_getD, List.getElem?_eq_getElem h2] at e2
 simp only [Option.getD_some] at e1 e2
 rw [e1, e2]
 split
 ·rfl
 rename_i m
 unfold loadD hasD
 rw [decide_eq_true (show (0 : Int) ≤ (i : Int) by omega), decide_eq_true (show (i : Int) < s.L.length by omega)]
 simp only [Bool.and_self, if_true, Int.toNat_natCast]
 cases hc : s.c (i : Int) with
 | none => rfl
 | some v => exact absurd ((keys_in _ _ _).2 ⟨by omega, by omega, by rw [hc]; rfl⟩) m
theorem jView (B : Nat) (F : Nat → Prop) (s : Dv) (w : World) (h : DvAt w B F s) (hg : GoodD s) :
 Calls Tryz.prog 26 #[.pointer (some ⟨B, 0, none⟩)] w fun e w' => ∃ v', e = .returned v' ∧ OwnU w' w.heap.size v' (viewD s) ∧ Below w.heap.size w w' := by
 have hIm := dImage B F s w h hg.len
 have hDi := lh (fun w1 (q : Below w.heap.size w w1) => dDirty B F s w1 (h.keep q) hg)
 have hLd := lh (fun x w1 (q : Below w.heap.size w w1) => dLoad B F s x w1 (h.keep q) hg)
 obtain ⟨N, hN⟩ : ∃ N, s.L.length = N := ⟨_, rfl⟩
 have hN1 := hg.len0
 have hN2 := hg.len
 obtain ⟨K, hK⟩ : ∃ K, keysL s.L.length s.c = K := ⟨_, rfl⟩
 obtain ⟨n, hn⟩ : ∃ n, K.length = n := ⟨_, rfl⟩
 have hkin := lh (fun k (hk : k < n) => show 0 ≤ K.getD k 0 ∧ K.getD k 0 < (N : Int) from by
  have hm : K.getD k 0 ∈ keysL s.L.length s.c := by rw [hK, List.getD_eq_getElem?_getD, List.getElem?_eq_getElem (by omega)]; exact List.getElem_mem _
  have := (keys_in _ _ _).1 hm
  rw [hN] at this
  exact ⟨this.1, this.2.1⟩)
 have hn9 : n ≤ 1000 := by have := keysL_len s.L.length s.c; rw [hK] at this; omega
 have hvf := lh (view_fold s)
 rw [hK] at hvf hDi
 have hst := lh (fun k (hk : k < n) => show (K.take (k + 1)).foldl (putV s) s.L = ((K.take k).foldl (putV s) s.L).set (K.getD k 0).toNat (loadD s (K.getD k 0)) from by
  rw [List.take_succ_eq_append_getElem (by omega), List.foldl_append, List.getD_eq_getElem?_getD, List.getElem?_eq_getElem (by omega)]; rfl)
 have hta := lh (show K.take n = K from List.take_of_length_le (by omega))
 have hln := lh (fun k => show ((K.take k).foldl (putV s) s.L).length = N from by rw [putV_len, hN])
 have hL0 := lh (show (K.take 0).foldl (putV s) s.L = s.L from rfl)
 rw [hN] at hN1 hN2
 replace hn := lh hn
 replace hN := lh hN
 replace hK := lh hK
 clear hg
 go_enter Tryz.func26, Tryz.ntmps26
 go_wp2_with fail
 refine hIm.mono ?_
 rintro e w1 ⟨v1, rfl, hO1, hb1⟩
 obtain ⟨A1, c1, hv1, hf1⟩ := OwnU.form hO1
 rw [hN.out] at hv1 hf1
 cases hv1
 obtain ⟨gI, rfl, hgI, hgI2⟩ := hf1 (by omega)
 have hDi1 := hDi.out w1 hb1
 clear hIm hDi hf1
 go_wp2_with fail
 refine hDi1.mono ?_
 rintro e w2 ⟨v2, rfl, hK2, hb2⟩
 obtain ⟨A2, c2, rfl, -⟩ := (hK2.el iE_len).form hn.out
 have hO2 := hO1.keep hb2
 have hB2 := hb1.trans (hb2.mono hb1.size)
 clear hDi1 hO1 hb1 hb2
 go_wp2_with fail
 go_loopw [11] (fun i wr => ∃ (k : Nat), k ≤ n ∧ i = .int .i64 (k : Nat) ∧ OwnU wr w.heap.size (.slice (some ⟨gI, 0, none⟩) N c1) ((K.take k).foldl (putV s) s.L) ∧ Chg (fun j => j = gI) w2 wr) (fun i _ => n + 1 - (intOf i).toNat)
 case atStart => exact ⟨0, Nat.zero_le _, rfl, by rw [hL0.out]; exact hO2, Chg.refl _ _⟩
 obtain ⟨k, hk, rfl, hOr, hc⟩ := hrel
 clear hO2
 by_cases hkn : k < n
 rotate_left
 ·obtain rfl : n = k := by omega
  have hkn' : ¬ (n : Int) < (n : Int) := by omega
  rw [hta.out, hvf.out] at hOr
  have hBw : Below w.heap.size w wr := hB2.trans (hc.below (fun j e => by subst e; exact hgI) hB2.size)
  go_wp2_with fail
  go_ret
  exact ⟨_, rfl, hOr, hBw⟩
 have hkn' : (k : Int) < (n : Int) := by omega
 have hKr : OwnE 3 1 iE wr w1.heap.size (.slice A2 n c2) K := OwnE.chg hK2 hc (fun j hj e => by
  have := (OwnE.lt hK2 j hj).1
  omega)
 obtain ⟨gD, cD, he, hbD, hgD, hcD⟩ := hKr.form (by rw [hn.out]; omega)
 rw [hn.out] at he hcD
 cases he
 have hcell := (hKr.cell iE_len hn.out hkn (j := 0) (by decide)).1
 have hki := hkin.out k hkn
 have hst1 := hst.out k hkn
 have hl1 := hln.out k
 have hBw : Below w.heap.size w wr := hB2.trans (hc.below (fun j e => by subst e; exact hgI) hB2.size)
 obtain ⟨x, hx⟩ : ∃ x, K.getD k 0 = x := ⟨_, rfl⟩
 rw [hx] at hki hst1
 have e0 : wr.cell? ⟨gD, k, none⟩ = some (.int .i64 x) := by
  have q := hcell
  rw [Nat.mul_one, Nat.add_zero] at q
  rw [q, ← hx]; rfl
 obtain ⟨hk0, hk1⟩ := hki
 obtain ⟨i, rfl⟩ := Int.eq_ofNat_of_zero_le hk0
 have hiN : i < N := by omega
 have hLd1 := hLd.out (i : Int) wr hBw
 obtain ⟨y, hy⟩ : ∃ y, loadD s (i : Int) = y := ⟨_, rfl⟩
 rw [hy, Int.toNat_natCast] at hst1
 rw [hy] at hLd1
 obtain ⟨X, hX⟩ : ∃ X, (K.take k).foldl (putV s) s.L = X := ⟨_, rfl⟩
 rw [hX] at hOr hst1 hl1
 obtain ⟨t0, t1⟩ := hOr.cell hl1 hiN
 have hOn := hOr.set hl1 hiN (y := y)
 rw [← hst1] at hOn
 have hcn := hc.trans (Chg.setCell (S := fun j => j = gI) wr gI i (.int .u64 (y : Nat)) rfl) (fun j q => .inl q)
 replace hst1 := lh hst1
 replace hX := lh hX
 replace hx := lh hx
 replace hy := lh hy
 obtain ⟨Xd, hXd⟩ : ∃ z, X.getD i 0 = z := ⟨_, rfl⟩
 rw [hXd] at t0
 replace hXd := lh hXd
 clear hcell hKr hOr hBw hk0
 go_wp2_with fail
 refine hLd1.mono ?_
 rintro e w3 ⟨rfl, rfl⟩
 clear hLd1
 go_wp2_with fail
 go_roundw
 case rel => exact ⟨k + 1, by omega, by go_num, hOn, hcn⟩
 first | (simp [intOf]; done) | (simp [intOf]; omega)
end Go.Proofs.YtkkbngcgphlikaaGreatDoor
end
section
namespace Go.Proofs.YtkkbngcgphlikaaGreatDoor
open Go.Lib Go.RowKit Go.ChangeShapes Go.WideShapes Go.Deep Go.Shelf
def nextN (g : Nat) : Nat := if g = 281474976710655 then 0 else g + 1
theorem nextN_eq (g : Nat) : nextG (g : Int) = ((nextN g : Nat) : Int) := by
 unfold nextG nextN
 by_cases h : g = 281474976710655
 ·subst h; rfl
 rw [if_neg (by omega), if_neg h]; rfl
theorem nextN_le {g : Nat} (h : g ≤ 281474976710655) : nextN g ≤ 281474976710655 := by
 unfold nextN; split <;> omega
theorem curG_le {x : Nat} (h : x < 18446744073709551616) : curG x ≤ 281474976710655 := by
 unfold curG
 split
 ·unfold mkG; omega
 omega
theorem okB_1 {g : Nat} (h : g ≤ 281474976710655) : okB ((1 : Nat) : Int) ((0 : Nat) : Int) ((g : Nat) : Int) = true := by
 unfold okB; simp; omega
theorem okB_2 {c g : Nat} (hc : c ≤ 16383) (h : g ≤ 281474976710655) : okB ((2 : Nat) : Int) ((c : Nat) : Int) ((g : Nat) : Int) = true := by
 unfold okB; simp; omega
theorem fieldM (x y z : Value) (w : World) : (Instr.field 123 (.agg #[x, y, z]) 2).run Tryz.prog w = .ok z w := by kernel_rfl
def begW (x : Nat) : Nat := 1 + 0 * 4 + nextN (curG x) * 65536
def decW (x k : Nat) : Nat := 2 + k * 4 + curG x * 65536
theorem jBegin (B : Nat) (F : Nat → Prop) (s : Dv) (N L ln m : Nat) (w : World) (h : DvAt w B F s) (hg : GoodJ s N m) (hN : 1 ≤ N) (hN2 : N ≤ 1000) (hm : m + N + 2 ≤ 100000) (hlk : lOk (N : Nat) (L : Nat) (ln : Nat) = true) (hln : ln ≤ 1000) (hxb : loadD s (10 + (ln : Int)) < 18446744073709551616) :
 Calls Tryz.prog 42 #[.pointer (some ⟨B, 0, none⟩), .agg #[.int .i64 (N : Nat), .int .i64 (L : Nat)], .int .i64 (ln : Nat)] w fun e w' => e = .returned (.tuple #[]) ∧ DvAt w' B F (layD s (10 + (ln : Int)) (begW (loadD s (10 + (ln : Int))))) ∧ Chg F w w' := by
 have hG1 := curG_le hxb
 obtain ⟨x, hx⟩ : ∃ x, loadD s (10 + (ln : Int)) = x := ⟨_, rfl⟩
 have hCu := lh (fun w1 (q : Below w.heap.size w w1) => jCurrent B F s N L ln w1 (h.keep q) (hg.good hN hN2 (by omega)) hlk hxb)
 rw [hx] at hCu hG1 ⊢
 unfold begW
 obtain ⟨sx, hsx⟩ : ∃ a, curS x = a := ⟨_, rfl⟩
 obtain ⟨cx, hcx⟩ : ∃ a, curC x = a := ⟨_, rfl⟩
 obtain ⟨gx, hgx⟩ : ∃ a, curG x = a := ⟨_, rfl⟩
 rw [hsx, hcx, hgx] at hCu
 rw [hgx] at hG1 ⊢
 have hBe := lh (fun w1 => begin_any (sx : Nat) (cx : Nat) (gx : Nat) w1 (by omega) (by omega))
 rw [nextN_eq] at hBe
 have hn1 := nextN_le hG1
 have hLm := lh (fun w1 (q : DvAt w1 B F s) => jLayMark B F s N L ln m 1 0 (nextN gx) w1 q hg hN hN2 hm hlk hln (okB_1 hn1) (by omega))
 generalize nextN gx = gn at *
 have hDv := lh (fun w1 (q : Below w.heap.size w w1) => h.keep q)
 clear hx hsx hcx hgx h hg hlk hxb
 have hb0 := bZ w (.cells #[.int .i64 (N : Nat), .int .i64 (L : Nat)] 37)
 have gG := HB.new w #[.int .i64 (N : Nat), .int .i64 (L : Nat)] 37
 obtain ⟨wb1, hwb1⟩ : ∃ x, w.alloc (.cells #[.int .i64 (N : Nat), .int .i64 (L : Nat)] 37) = x := ⟨_, rfl⟩
 have hswb1 : wb1.heap.size = w.heap.size + 1 := by rw [← hwb1]; simp
 rw [hwb1] at hb0 gG
 have hB : Below w.heap.size w wb1 := hb0
 obtain ⟨C, hC⟩ : ∃ C, w.heap.size = C := ⟨_, rfl⟩
 rw [hC] at gG hswb1
 clear hb0
 have hCF := lh (fun w' (hb : Below wb1.heap.size wb1 w') => show w'.cell? ⟨C, 0, none⟩ = some (.int .i64 (N : Nat)) ∧ w'.cell? ⟨C, 1, none⟩ = some (.int .i64 (L : Nat)) from (gG.keep hb).c2)
 clear gG
 go_enter Tryz.func42, Tryz.ntmps42
 go_wp2_with fail
 refine wp_region_tail (S := (fun w' => Below wb1.heap.size wb1 w')) (n := 8) (by kernel_rfl) (Below.refl _ _).drew (fun hHeld hInv => ?_) (by decide)
 refine takeHS 0 hInv ?_; clear hInv; intro hInv
 refine takeHS 1 hInv ?_; clear hInv; intro hInv
 refine takeHS 2 hInv ?_; clear hInv; intro hInv
 refine takeHS 3 hInv ?_; clear hInv; intro hInv
 refine takeHS 4 hInv ?_; clear hInv; intro hInv
 refine takeHS 5 hInv ?_; clear hInv; intro hInv
 refine oneS 6 hInv (by decide) rfl (by kernel_rfl) (fun K hK => ?_)
 go_simp
 refine (hCu.out _ (hB.trans (hHeld.mono hB.size))).mono ?_
 rintro e w2 ⟨rfl, hb⟩
 refine hK.out _ _ (hHeld.trans (hb.mono hHeld.size)) (fun hHeld2 hInv2 => ?_)
 clear hK K hHeld hInv
 have hHeld := hHeld2
 have hInv := hInv2
 clear hHeld2 hInv2
 try simp only [Act.put,sA,sB,sC] at hInv ⊢
 refine oneS 7 hInv (by decide) rfl (by kernel_rfl) (fun K hK => ?_)
 go_simp
 refine (hBe.out _).mono ?_
 rintro e w3 ⟨rfl, hb⟩
 refine hK.out _ _ (hHeld.trans (hb.mono hHeld.size)) (fun hHeld2 hInv2 => ?_)
 clear hK K hHeld hInv
 have hHeld := hHeld2
 have hInv := hInv2
 clear hHeld2 hInv2
 try simp only [Act.put,sA,sB,sC] at hInv ⊢
 refine lastS 8 rfl (by decide) (by kernel_rfl) (fun K hK => ?_)
 have hB3 := hB.trans (hHeld.mono hB.size)
 go_simp
 refine (hLm.out _ (hDv.out _ hB3)).mono ?_
 rintro e w4 ⟨rfl, hD4, hc4⟩
 refine hK.out _ _ ?_
 clear hK K
 try simp only [Act.put,sA,sB,sC]
 refine wpAnyS_done (by kernel_rfl) ?_ _
 have hc5 := (Chg.of_below F hB3).trans hc4 (fun j q => .inl q)
 clear hCF hInv hHeld hCu hDv hLm
 go_wp2_with fail
 go_end0
 exact ⟨rfl, hD4, hc5⟩
theorem jDecide (B : Nat) (F : Nat → Prop) (s : Dv) (N L ln m : Nat) (k : Nat) (hk : k ≤ 16383) (w : World) (h : DvAt w B F s) (hg : GoodJ s N m) (hN : 1 ≤ N) (hN2 : N ≤ 1000) (hm : m + N + 2 ≤ 100000) (hlk : lOk (N : Nat) (L : Nat) (ln : Nat) = true) (hln : ln ≤ 1000) (hxb : loadD s (10 + (ln : Int)) < 18446744073709551616) :
 Calls Tryz.prog 27 #[.pointer (some ⟨B, 0, none⟩), .agg #[.int .i64 (N : Nat), .int .i64 (L : Nat)], .int .i64 (ln : Nat), .int .i64 (k : Nat)] w fun e w' => e = .returned (.tuple #[]) ∧ DvAt w' B F (layD s (10 + (ln : Int)) (decW (loadD s (10 + (ln : Int))) k)) ∧ Chg F w w' := by
 have hG1 := curG_le hxb
 obtain ⟨x, hx⟩ : ∃ x, loadD s (10 + (ln : Int)) = x := ⟨_, rfl⟩
 have hCu := lh (fun w1 (q : Below w.heap.size w w1) => jCurrent B F s N L ln w1 (h.keep q) (hg.good hN hN2 (by omega)) hlk hxb)
 rw [hx] at hCu hG1 ⊢
 unfold decW
 obtain ⟨sx, hsx⟩ : ∃ a, curS x = a := ⟨_, rfl⟩
 obtain ⟨cx, hcx⟩ : ∃ a, curC x = a := ⟨_, rfl⟩
 obtain ⟨gx, hgx⟩ : ∃ a, curG x = a := ⟨_, rfl⟩
 rw [hsx, hcx, hgx] at hCu
 rw [hgx] at hG1 ⊢
 have hLm := lh (fun w1 (q : DvAt w1 B F s) => jLayMark B F s N L ln m 2 k gx w1 q hg hN hN2 hm hlk hln (okB_2 hk hG1) (by omega))
 have hfd := fun w1 => fieldM (.int .i64 (sx : Nat)) (.int .i64 (cx : Nat)) (.int .u64 (gx : Nat)) w1
 have hDv := lh (fun w1 (q : Below w.heap.size w w1) => h.keep q)
 clear hx hsx hcx hgx h hg hlk hxb
 have hb0 := bZ w (.cells #[.int .i64 (N : Nat), .int .i64 (L : Nat)] 37)
 have gG := HB.new w #[.int .i64 (N : Nat), .int .i64 (L : Nat)] 37
 obtain ⟨wb1, hwb1⟩ : ∃ x, w.alloc (.cells #[.int .i64 (N : Nat), .int .i64 (L : Nat)] 37) = x := ⟨_, rfl⟩
 have hswb1 : wb1.heap.size = w.heap.size + 1 := by rw [← hwb1]; simp
 rw [hwb1] at hb0 gG
 have hB : Below w.heap.size w wb1 := hb0
 obtain ⟨C, hC⟩ : ∃ C, w.heap.size = C := ⟨_, rfl⟩
 rw [hC] at gG hswb1
 clear hb0
 have hCF := lh (fun w' (hb : Below wb1.heap.size wb1 w') => show w'.cell? ⟨C, 0, none⟩ = some (.int .i64 (N : Nat)) ∧ w'.cell? ⟨C, 1, none⟩ = some (.int .i64 (L : Nat)) from (gG.keep hb).c2)
 clear gG
 go_enter Tryz.func27, Tryz.ntmps27
 go_wp2_with fail
 refine wp_region_tail (S := (fun w' => Below wb1.heap.size wb1 w')) (n := 10) (by kernel_rfl) (Below.refl _ _).drew (fun hHeld hInv => ?_) (by decide)
 refine takeHS 0 hInv ?_; clear hInv; intro hInv
 refine takeHS 1 hInv ?_; clear hInv; intro hInv
 refine takeHS 2 hInv ?_; clear hInv; intro hInv
 refine takeHS 3 hInv ?_; clear hInv; intro hInv
 refine takeHS 4 hInv ?_; clear hInv; intro hInv
 refine takeHS 5 hInv ?_; clear hInv; intro hInv
 refine takeHS 6 hInv ?_; clear hInv; intro hInv
 refine oneS 7 hInv (by decide) rfl (by kernel_rfl) (fun K hK => ?_)
 go_simp
 refine (hCu.out _ (hB.trans (hHeld.mono hB.size))).mono ?_
 rintro e w2 ⟨rfl, hb⟩
 refine hK.out _ _ (hHeld.trans (hb.mono hHeld.size)) (fun hHeld2 hInv2 => ?_)
 clear hK K hHeld hInv
 have hHeld := hHeld2
 have hInv := hInv2
 clear hHeld2 hInv2
 try simp only [Act.put,sA,sB,sC] at hInv ⊢
 refine takeHS 8 hInv ?_; clear hInv; intro hInv
 refine takeHS 9 hInv ?_; clear hInv; intro hInv
 refine lastS 10 rfl (by decide) (by kernel_rfl) (fun K hK => ?_)
 have hB3 := hB.trans (hHeld.mono hB.size)
 go_simp
 refine (hLm.out _ (hDv.out _ hB3)).mono ?_
 rintro e w4 ⟨rfl, hD4, hc4⟩
 refine hK.out _ _ ?_
 clear hK K
 try simp only [Act.put,sA,sB,sC]
 refine wpAnyS_done (by kernel_rfl) ?_ _
 have hc5 := (Chg.of_below F hB3).trans hc4 (fun j q => .inl q)
 clear hCF hInv hHeld hCu hDv hLm
 go_wp2_with fail
 go_end0
 exact ⟨rfl, hD4, hc5⟩
end Go.Proofs.YtkkbngcgphlikaaGreatDoor
end
section
namespace Go.Proofs.YtkkbngcgphlikaaGreatDoor
open Go.Lib Go.RowKit Go.ChangeShapes Go.WideShapes Go.Deep Go.Shelf
theorem KL.far {K : IntKind} {S : Nat → Prop} {w w1 : World} {v : Value} {l : List Nat} (h : KL K w v l) (hc : Chg S w w1) (hn : ∀ k, v.ownBlock = some k → ¬ S k) : KL K w1 v l := by
 obtain ⟨A, c, rfl, hk⟩ := h
 refine ⟨A, c, rfl, fun hp => ?_⟩
 obtain ⟨g, off, rfl, hg, hcap, hi⟩ := hk hp
 exact ⟨g, off, rfl, Nat.lt_of_lt_of_le hg hc.size, hcap, fun i hil => by rw [World.cell?_of_block (hc.block _ hg (hn g rfl))]; exact hi i hil⟩
def WD (s : Dv) : Prop := Al (fun _ v => v < 18446744073709551616) s
theorem WD.load {s : Dv} (h : WD s) (x : Int) : loadD s x < 18446744073709551616 := by
 by_cases hx : hasD s x = true
 ·have hx2 := hx
  unfold hasD at hx2
  rw [Bool.and_eq_true, decide_eq_true_iff, decide_eq_true_iff] at hx2
  obtain ⟨i, rfl⟩ := Int.eq_ofNat_of_zero_le hx2.1
  exact load_al h (by omega)
 unfold loadD
 rw [if_neg hx]
 decide
theorem fieldS (x y : Value) (w : World) : (Instr.field 70 (.agg #[x, y]) 0).run Tryz.prog w = .ok x w := by kernel_rfl
end Go.Proofs.YtkkbngcgphlikaaGreatDoor
end
section
namespace Go.Proofs.YtkkbngcgphlikaaGreatDoor
open Go.Lib Go.RowKit Go.ChangeShapes Go.WideShapes Go.Deep Go.Shelf
theorem HB.chgJ {S : Nat → Prop} {w w1 : World} {b : Nat} {cs : Array Value} {t : TypeId} (h : HB w b cs t) (hc : Chg S w w1) (hn : ¬ S b) : HB w1 b cs t := (hc.block b h.lt hn).trans h
end Go.Proofs.YtkkbngcgphlikaaGreatDoor
end
