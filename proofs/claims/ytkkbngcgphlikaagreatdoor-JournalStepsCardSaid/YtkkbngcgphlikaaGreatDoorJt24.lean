/-
  Part of the proof of JournalSteps.
-/
import Derived.Test.YtkkbngcgphlikaaGreatDoorJt19
import Derived.Test.YtkkbngcgphlikaaGreatDoorJt0
set_option maxRecDepth 100000
set_option maxHeartbeats 4000000
set_option linter.unusedVariables false
set_option linter.unusedSimpArgs false
namespace Go.Proofs.YtkkbngcgphlikaaGreatDoor
open Go.RowKit Go.ChangeShapes Go.WideShapes Go.Deep
def MergeOk (cb : Array Value) (ke : Nat → Int) (N base g n cap : Nat) (w0 : World) (L : Nat) : Prop := ∀ (a m b : Nat) (d : List Nat) (w : World), b - a < L → SD w0 base g n cap d w → a < m → m < b → b ≤ n → (∀ x ∈ d, x < N) → Srt ke d a m → Srt ke d m b → Lss nI d a m m b →
 Calls Tryz.prog 217 #[.slice (some ⟨g, 0, none⟩) n cap, .int .i64 a, .int .i64 m, .int .i64 b, .func (.func 193) #[] cb] w (fun e w' => e = .returned (.tuple #[]) ∧ ∃ d1, SD w0 base g n cap d1 w' ∧ Mv a b d d1 ∧ Srt ke d1 a b)
theorem symMerge_high (cb : Array Value) (f ke : Nat → Int) (N base g n cap : Nat) (w0 : World) (a m b : Nat) (d : List Nat) (w : World) (HC : Hid (CmpOk cb f N base w0)) (K : Hid (Key N f ke)) (S0 : SD w0 base g n cap d w) (ham : a < m) (hmb : m < b) (hb : b ≤ n) (hn : n ≤ 100000)
 (hN : Hid (∀ x ∈ d, x < N)) (hL : Hid (Srt ke d a m)) (hR : Hid (Srt ke d m b)) (hX : Hid (Lss nI d a m m b)) (h1 : ¬ m = a + 1) (h2 : ¬ b = m + 1) (hIH : Hid (MergeOk cb ke N base g n cap w0 (b - a))) (hcs : (a + b) / 2 < m) :
 Calls Tryz.prog 217 #[.slice (some ⟨g, 0, none⟩) n cap, .int .i64 a, .int .i64 m, .int .i64 b, .func (.func 193) #[] cb] w (fun e w' => e = .returned (.tuple #[]) ∧ ∃ d1, SD w0 base g n cap d1 w' ∧ Mv a b d d1 ∧ Srt ke d1 a b) := by
 have hl0 := lh S0.len
 have z0 : ¬ (m : Int) - (a : Int) = 1 := by omega
 have z1 : ¬ (b : Int) - (m : Int) = 1 := by omega
 have z2 : (((m : Int) - (a : Int)) == 1) = false := by rw [beq_eq_false_iff_ne]; omega
 have z3 : (((b : Int) - (m : Int)) == 1) = false := by rw [beq_eq_false_iff_ne]; omega
 obtain ⟨mid, hmid⟩ : ∃ q, (a + b) / 2 = q := ⟨_, rfl⟩
 rw [hmid] at hcs
 obtain ⟨nn, hnn⟩ : ∃ q, mid + m = q := ⟨_, rfl⟩
 have b1 : a < mid := by omega
 have b2 : mid < b := by omega
 obtain ⟨sab, hsab⟩ : ∃ q, a + b = q := ⟨_, rfl⟩
 have e0 : (a : Int) + (b : Int) = (sab : Int) := by omega
 have e1 : (sab : Int) / 2 = (mid : Int) := by omega
 have e2 : (mid : Int) + (m : Int) = (nn : Int) := by omega
 have e3 : sab < 200001 := by omega
 obtain ⟨pp, hpp⟩ : ∃ q, nn = q + 1 := ⟨nn - 1, by omega⟩
 have e4 : (nn : Int) - 1 = (pp : Int) := by omega
 obtain ⟨s0, hs0⟩ : ∃ q, nn - b = q := ⟨_, rfl⟩
 have c1 : (m : Int) > (mid : Int) := by omega
 have c2 : (nn : Int) - (b : Int) = (s0 : Int) := by omega
 have k1 : a ≤ s0 ∧ s0 ≤ mid ∧ mid ≤ m ∧ mid ≤ mid ∧ nn ≤ s0 + b ∧ mid ≤ nn ∧ (mid = m ∨ mid = mid) ∧ (s0 = a ∨ s0 + b = nn) ∧ nn = mid + m ∧ nn < 200002 := by omega
 replace k1 := lh k1
 have k9 : nn < 200002 := by omega
 have k8 : pp < 200002 := by omega
 have hmid := lh hmid
 clear hnn hsab hs0
 replace hpp := lh hpp
 go_enter Tryz.func217, Tryz.ntmps217
 go_wp2_with fail
 go_loopw [20, 21] (fun u v wr => ∃ (i j : Nat), s0 ≤ i ∧ i ≤ j ∧ j ≤ mid ∧ u = .int .i64 i ∧ v = .int .i64 j ∧ Hid (SD w0 base g n cap d wr) ∧ Hid (∀ c, s0 ≤ c → c < i → ke (d.getD c 0) < ke (d.getD (pp - c) 0)) ∧ Hid (∀ c, j ≤ c → c < mid → ke (d.getD (pp - c) 0) < ke (d.getD c 0))) (fun u v _ => (intOf v).toNat - (intOf u).toNat)
 case atStart => exact ⟨s0, mid, Nat.le_refl _, k1.out.2.1, Nat.le_refl _, rfl, rfl, S0, fun q q1 q2 => by omega, fun q q1 q2 => by omega⟩
 obtain ⟨i, j, hmi, hij, hjb, rfl, rfl, hSd', hlo, hhi⟩ := hrel
 have hSd := hSd'.out
 have hpq := hpp.out
 have k1' := k1.out
 by_cases hlt : i < j
 ·have hltz : (i : Int) < (j : Int) := by omega
  obtain ⟨h, hh⟩ : ∃ h, (i + j) / 2 = h := ⟨_, rfl⟩
  have hn1 : h < n := by omega
  obtain ⟨s, hs⟩ : ∃ s, i + j = s := ⟨_, rfl⟩
  have h1 : (i : Int) + (j : Int) = (s : Int) := by omega
  have h2 : (s : Int) / 2 = (h : Int) := by omega
  have h3 : s < 200001 := by omega
  have ew3 : IntKind.i64.wrap (h : Int) = (h : Int) := by rw [IntKind.wrap_i64]; omega
  have bh : (h : Int) < (n : Int) := by omega
  obtain ⟨ph, hph⟩ : ∃ q, pp - h = q := ⟨_, rfl⟩
  have phn : ph < n := by omega
  have h4 : (pp : Int) - (h : Int) = (ph : Int) := by omega
  have bp : (ph : Int) < (n : Int) := by omega
  have ew5 : IntKind.i64.wrap (ph : Int) = (ph : Int) := by rw [IntKind.wrap_i64]; omega
  obtain ⟨x, hx⟩ : ∃ x, d.getD ph 0 = x := ⟨_, rfl⟩
  obtain ⟨y, hy⟩ : ∃ y, d.getD h 0 = y := ⟨_, rfl⟩
  have xN : x < N := by rw [← hx]; exact hN.out _ (getD_mem_ (by rw [hl0.out]; omega))
  have yN : y < N := by rw [← hy]; exact hN.out _ (getD_mem_ (by rw [hl0.out]; omega))
  have hyx : y < x := by rw [← hx, ← hy]; exact lss_lt hX.out (by omega) (by omega) (by omega) (by omega)
  obtain ⟨fx, hfx⟩ : ∃ z, f x = z := ⟨_, rfl⟩
  obtain ⟨fy, hfy⟩ : ∃ z, f y = z := ⟨_, rfl⟩
  by_cases hf : fx < fy
  ·have hke := K.out.lt x y hyx xN (by rw [hfx, hfy]; exact hf)
   rw [← hx, ← hy, ← hph] at hke
   have hhi2 := lh (find_hi (p := pp) (s0 := s0) (r0 := mid) hL.out hR.out hke k1.out.1 (by omega) (by omega) (by omega) (by omega))
   have g1 : fx - fy < 0 := by omega
   have g2 : decide (fx - fy < 0) = true := decide_eq_true g1
   replace hx := lh hx
   replace hy := lh hy
   replace hfx := lh hfx
   replace hfy := lh hfy
   have hh' := lh hh
   clear hke hh hs hph k1' hpq
   go_wp2_with fail
   refine wp_region_held_drew (S := (fun w' => SD w0 base g n cap d w')) (by kernel_rfl) ?_ (fun hHeld => ?_)
   ·(try dsimp only)
    (first | exact hSd.drew | exact hHeld.drew)
   refine takeL 0 (v := ?_) rfl (by kernel_rfl) (by kernel_rfl) (by kernel_rfl) (fun _ _ _ h => h) (by rfl) (by assumption) ?_ ?_
   rotate_left
   ·(intro w hSw; (try dsimp only at hSw); (have p0 := (hSw.cell ph phn).1; have p1 := (hSw.cell h hn1).1; rw [hx.out] at p0; rw [hy.out] at p1); go_simp <;> with_reducible rfl)
   try simp only [Act.put,sA,sB,sC]
   refine takeL 1 (v := ?_) rfl (by kernel_rfl) (by kernel_rfl) (by kernel_rfl) (fun _ _ _ h => h) (by rfl) (by assumption) ?_ ?_
   rotate_left
   ·(intro w hSw; (try dsimp only at hSw); (have p0 := (hSw.cell ph phn).1; have p1 := (hSw.cell h hn1).1; rw [hx.out] at p0; rw [hy.out] at p1); go_simp <;> with_reducible rfl)
   try simp only [Act.put,sA,sB,sC]
   refine takeL 2 (v := ?_) rfl (by kernel_rfl) (by kernel_rfl) (by kernel_rfl) (fun _ _ _ h => h) (by rfl) (by assumption) ?_ ?_
   rotate_left
   ·(intro w hSw; (try dsimp only at hSw); (have p0 := (hSw.cell ph phn).1; have p1 := (hSw.cell h hn1).1; rw [hx.out] at p0; rw [hy.out] at p1); go_simp <;> with_reducible rfl)
   try simp only [Act.put,sA,sB,sC]
   refine takeL 3 (v := ?_) rfl (by kernel_rfl) (by kernel_rfl) (by kernel_rfl) (fun _ _ _ h => h) (by rfl) (by assumption) ?_ ?_
   rotate_left
   ·(intro w hSw; (try dsimp only at hSw); (have p0 := (hSw.cell ph phn).1; have p1 := (hSw.cell h hn1).1; rw [hx.out] at p0; rw [hy.out] at p1); go_simp <;> with_reducible rfl)
   try simp only [Act.put,sA,sB,sC]
   refine takeL 4 (v := ?_) rfl (by kernel_rfl) (by kernel_rfl) (by kernel_rfl) (fun _ _ _ h => h) (by rfl) (by assumption) ?_ ?_
   rotate_left
   ·(intro w hSw; (try dsimp only at hSw); (have p0 := (hSw.cell ph phn).1; have p1 := (hSw.cell h hn1).1; rw [hx.out] at p0; rw [hy.out] at p1); go_simp <;> with_reducible rfl)
   try simp only [Act.put,sA,sB,sC]
   refine takeL 5 (v := ?_) rfl (by kernel_rfl) (by kernel_rfl) (by kernel_rfl) (fun _ _ _ h => h) (by rfl) (by assumption) ?_ ?_
   rotate_left
   ·(intro w hSw; (try dsimp only at hSw); (have p0 := (hSw.cell ph phn).1; have p1 := (hSw.cell h hn1).1; rw [hx.out] at p0; rw [hy.out] at p1); go_simp <;> with_reducible rfl)
   try simp only [Act.put,sA,sB,sC]
   refine takeL 6 (v := ?_) rfl (by kernel_rfl) (by kernel_rfl) (by kernel_rfl) (fun _ _ _ h => h) (by rfl) (by assumption) ?_ ?_
   rotate_left
   ·(intro w hSw; (try dsimp only at hSw); (have p0 := (hSw.cell ph phn).1; have p1 := (hSw.cell h hn1).1; rw [hx.out] at p0; rw [hy.out] at p1); go_simp <;> with_reducible rfl)
   try simp only [Act.put,sA,sB,sC]
   refine takeL 7 (v := ?_) rfl (by kernel_rfl) (by kernel_rfl) (by kernel_rfl) (fun _ _ _ h => h) (by rfl) (by assumption) ?_ ?_
   rotate_left
   ·(intro w hSw; (try dsimp only at hSw); (have p0 := (hSw.cell ph phn).1; have p1 := (hSw.cell h hn1).1; rw [hx.out] at p0; rw [hy.out] at p1); go_simp <;> with_reducible rfl)
   try simp only [Act.put,sA,sB,sC]
   refine takeL 8 (v := ?_) rfl (by kernel_rfl) (by kernel_rfl) (by kernel_rfl) (fun _ _ _ h => h) (by rfl) (by assumption) ?_ ?_
   rotate_left
   ·(intro w hSw; (try dsimp only at hSw); (have p0 := (hSw.cell ph phn).1; have p1 := (hSw.cell h hn1).1; rw [hx.out] at p0; rw [hy.out] at p1); go_simp <;> with_reducible rfl)
   try simp only [Act.put,sA,sB,sC]
   refine takeL 9 (v := ?_) rfl (by kernel_rfl) (by kernel_rfl) (by kernel_rfl) (fun _ _ _ h => h) (by rfl) (by assumption) ?_ ?_
   rotate_left
   ·(intro w hSw; (try dsimp only at hSw); (have p0 := (hSw.cell ph phn).1; have p1 := (hSw.cell h hn1).1; rw [hx.out] at p0; rw [hy.out] at p1); go_simp <;> with_reducible rfl)
   try simp only [Act.put,sA,sB,sC]
   refine takeL 10 (v := ?_) rfl (by kernel_rfl) (by kernel_rfl) (by kernel_rfl) (fun _ _ _ h => h) (by rfl) (by assumption) ?_ ?_
   rotate_left
   ·(intro w hSw; (try dsimp only at hSw); (have p0 := (hSw.cell ph phn).1; have p1 := (hSw.cell h hn1).1; rw [hx.out] at p0; rw [hy.out] at p1); go_simp <;> with_reducible rfl)
   try simp only [Act.put,sA,sB,sC]
   refine oneL 11 rfl (by kernel_rfl) (fun K hK => ?_)
   go_simp
   (have hq := HC.out _ x y hHeld.kept xN yN; rw [hfx.out, hfy.out] at hq; go_at_call 193; (with_reducible refine hq.mono ?_); rintro e w8 ⟨rfl, rfl⟩)
   refine hK.out _ _ ?_ (fun hHeld2 => ?_)
   ·(try dsimp only)
    (first | exact hSd.drew | exact hHeld.drew)
   clear hK K hHeld
   have hHeld := hHeld2
   clear hHeld2
   try simp only [Act.put,sA,sB,sC]
   refine takeL 12 (v := ?_) rfl (by kernel_rfl) (by kernel_rfl) (by kernel_rfl) (fun _ _ _ h => h) (by rfl) (by assumption) ?_ ?_
   rotate_left
   ·(intro w hSw; (try dsimp only at hSw); (have p0 := (hSw.cell ph phn).1; have p1 := (hSw.cell h hn1).1; rw [hx.out] at p0; rw [hy.out] at p1); go_simp <;> with_reducible rfl)
   try simp only [Act.put,sA,sB,sC]
   refine takeL 13 (v := ?_) rfl (by kernel_rfl) (by kernel_rfl) (by kernel_rfl) (fun _ _ _ h => h) (by rfl) (by assumption) ?_ ?_
   rotate_left
   ·(intro w hSw; (try dsimp only at hSw); (have p0 := (hSw.cell ph phn).1; have p1 := (hSw.cell h hn1).1; rw [hx.out] at p0; rw [hy.out] at p1); go_simp <;> with_reducible rfl)
   try simp only [Act.put,sA,sB,sC]
   refine wpAnyH_done (by kernel_rfl) ?_ _
   (try simp only [Exit.inBlock, Exit.then])
   replace hHeld := lh hHeld
   clear hSd
   go_wp2_with fail
   go_roundw
   case rel => exact ⟨i, h, hmi, by have := hh'.out; omega, by have := hh'.out; omega, rfl, rfl, hHeld, hlo, hhi2⟩
   have := hh'.out; first | (simp [intOf]; done) | (simp [intOf]; omega)
  have hke := K.out.ge x y hyx xN (by rw [hfx, hfy]; exact hf)
  rw [← hx, ← hy, ← hph] at hke
  have hlo2 := lh (find_lo (p := pp) (s0 := s0) hL.out hR.out hke k1.out.1 (by omega) (by omega) (by omega))
  have g1 : ¬ fx - fy < 0 := by omega
  have g2 : decide (fx - fy < 0) = false := decide_eq_false g1
  replace hx := lh hx
  replace hy := lh hy
  replace hfx := lh hfx
  replace hfy := lh hfy
  have hh' := lh hh
  clear hke hh hs hph k1' hpq
  go_wp2_with fail
  refine wp_region_held_drew (S := (fun w' => SD w0 base g n cap d w')) (by kernel_rfl) ?_ (fun hHeld => ?_)
  ·(try dsimp only)
   (first | exact hSd.drew | exact hHeld.drew)
  refine takeL 0 (v := ?_) rfl (by kernel_rfl) (by kernel_rfl) (by kernel_rfl) (fun _ _ _ h => h) (by rfl) (by assumption) ?_ ?_
  rotate_left
  ·(intro w hSw; (try dsimp only at hSw); (have p0 := (hSw.cell ph phn).1; have p1 := (hSw.cell h hn1).1; rw [hx.out] at p0; rw [hy.out] at p1); go_simp <;> with_reducible rfl)
  try simp only [Act.put,sA,sB,sC]
  refine takeL 1 (v := ?_) rfl (by kernel_rfl) (by kernel_rfl) (by kernel_rfl) (fun _ _ _ h => h) (by rfl) (by assumption) ?_ ?_
  rotate_left
  ·(intro w hSw; (try dsimp only at hSw); (have p0 := (hSw.cell ph phn).1; have p1 := (hSw.cell h hn1).1; rw [hx.out] at p0; rw [hy.out] at p1); go_simp <;> with_reducible rfl)
  try simp only [Act.put,sA,sB,sC]
  refine takeL 2 (v := ?_) rfl (by kernel_rfl) (by kernel_rfl) (by kernel_rfl) (fun _ _ _ h => h) (by rfl) (by assumption) ?_ ?_
  rotate_left
  ·(intro w hSw; (try dsimp only at hSw); (have p0 := (hSw.cell ph phn).1; have p1 := (hSw.cell h hn1).1; rw [hx.out] at p0; rw [hy.out] at p1); go_simp <;> with_reducible rfl)
  try simp only [Act.put,sA,sB,sC]
  refine takeL 3 (v := ?_) rfl (by kernel_rfl) (by kernel_rfl) (by kernel_rfl) (fun _ _ _ h => h) (by rfl) (by assumption) ?_ ?_
  rotate_left
  ·(intro w hSw; (try dsimp only at hSw); (have p0 := (hSw.cell ph phn).1; have p1 := (hSw.cell h hn1).1; rw [hx.out] at p0; rw [hy.out] at p1); go_simp <;> with_reducible rfl)
  try simp only [Act.put,sA,sB,sC]
  refine takeL 4 (v := ?_) rfl (by kernel_rfl) (by kernel_rfl) (by kernel_rfl) (fun _ _ _ h => h) (by rfl) (by assumption) ?_ ?_
  rotate_left
  ·(intro w hSw; (try dsimp only at hSw); (have p0 := (hSw.cell ph phn).1; have p1 := (hSw.cell h hn1).1; rw [hx.out] at p0; rw [hy.out] at p1); go_simp <;> with_reducible rfl)
  try simp only [Act.put,sA,sB,sC]
  refine takeL 5 (v := ?_) rfl (by kernel_rfl) (by kernel_rfl) (by kernel_rfl) (fun _ _ _ h => h) (by rfl) (by assumption) ?_ ?_
  rotate_left
  ·(intro w hSw; (try dsimp only at hSw); (have p0 := (hSw.cell ph phn).1; have p1 := (hSw.cell h hn1).1; rw [hx.out] at p0; rw [hy.out] at p1); go_simp <;> with_reducible rfl)
  try simp only [Act.put,sA,sB,sC]
  refine takeL 6 (v := ?_) rfl (by kernel_rfl) (by kernel_rfl) (by kernel_rfl) (fun _ _ _ h => h) (by rfl) (by assumption) ?_ ?_
  rotate_left
  ·(intro w hSw; (try dsimp only at hSw); (have p0 := (hSw.cell ph phn).1; have p1 := (hSw.cell h hn1).1; rw [hx.out] at p0; rw [hy.out] at p1); go_simp <;> with_reducible rfl)
  try simp only [Act.put,sA,sB,sC]
  refine takeL 7 (v := ?_) rfl (by kernel_rfl) (by kernel_rfl) (by kernel_rfl) (fun _ _ _ h => h) (by rfl) (by assumption) ?_ ?_
  rotate_left
  ·(intro w hSw; (try dsimp only at hSw); (have p0 := (hSw.cell ph phn).1; have p1 := (hSw.cell h hn1).1; rw [hx.out] at p0; rw [hy.out] at p1); go_simp <;> with_reducible rfl)
  try simp only [Act.put,sA,sB,sC]
  refine takeL 8 (v := ?_) rfl (by kernel_rfl) (by kernel_rfl) (by kernel_rfl) (fun _ _ _ h => h) (by rfl) (by assumption) ?_ ?_
  rotate_left
  ·(intro w hSw; (try dsimp only at hSw); (have p0 := (hSw.cell ph phn).1; have p1 := (hSw.cell h hn1).1; rw [hx.out] at p0; rw [hy.out] at p1); go_simp <;> with_reducible rfl)
  try simp only [Act.put,sA,sB,sC]
  refine takeL 9 (v := ?_) rfl (by kernel_rfl) (by kernel_rfl) (by kernel_rfl) (fun _ _ _ h => h) (by rfl) (by assumption) ?_ ?_
  rotate_left
  ·(intro w hSw; (try dsimp only at hSw); (have p0 := (hSw.cell ph phn).1; have p1 := (hSw.cell h hn1).1; rw [hx.out] at p0; rw [hy.out] at p1); go_simp <;> with_reducible rfl)
  try simp only [Act.put,sA,sB,sC]
  refine takeL 10 (v := ?_) rfl (by kernel_rfl) (by kernel_rfl) (by kernel_rfl) (fun _ _ _ h => h) (by rfl) (by assumption) ?_ ?_
  rotate_left
  ·(intro w hSw; (try dsimp only at hSw); (have p0 := (hSw.cell ph phn).1; have p1 := (hSw.cell h hn1).1; rw [hx.out] at p0; rw [hy.out] at p1); go_simp <;> with_reducible rfl)
  try simp only [Act.put,sA,sB,sC]
  refine oneL 11 rfl (by kernel_rfl) (fun K hK => ?_)
  go_simp
  (have hq := HC.out _ x y hHeld.kept xN yN; rw [hfx.out, hfy.out] at hq; go_at_call 193; (with_reducible refine hq.mono ?_); rintro e w8 ⟨rfl, rfl⟩)
  refine hK.out _ _ ?_ (fun hHeld2 => ?_)
  ·(try dsimp only)
   (first | exact hSd.drew | exact hHeld.drew)
  clear hK K hHeld
  have hHeld := hHeld2
  clear hHeld2
  try simp only [Act.put,sA,sB,sC]
  refine takeL 12 (v := ?_) rfl (by kernel_rfl) (by kernel_rfl) (by kernel_rfl) (fun _ _ _ h => h) (by rfl) (by assumption) ?_ ?_
  rotate_left
  ·(intro w hSw; (try dsimp only at hSw); (have p0 := (hSw.cell ph phn).1; have p1 := (hSw.cell h hn1).1; rw [hx.out] at p0; rw [hy.out] at p1); go_simp <;> with_reducible rfl)
  try simp only [Act.put,sA,sB,sC]
  refine takeL 13 (v := ?_) rfl (by kernel_rfl) (by kernel_rfl) (by kernel_rfl) (fun _ _ _ h => h) (by rfl) (by assumption) ?_ ?_
  rotate_left
  ·(intro w hSw; (try dsimp only at hSw); (have p0 := (hSw.cell ph phn).1; have p1 := (hSw.cell h hn1).1; rw [hx.out] at p0; rw [hy.out] at p1); go_simp <;> with_reducible rfl)
  try simp only [Act.put,sA,sB,sC]
  refine wpAnyH_done (by kernel_rfl) ?_ _
  (try simp only [Exit.inBlock, Exit.then])
  replace hHeld := lh hHeld
  clear hSd
  go_wp2_with fail
  go_roundw
  case rel => exact ⟨h + 1, j, by omega, by have := hh'.out; omega, hjb, by go_num, rfl, hHeld, hlo2, hhi⟩
  have := hh'.out; first | (simp [intOf]; done) | (simp [intOf]; omega)
 obtain rfl : i = j := by omega
 obtain ⟨en, hen⟩ : ∃ q, nn - i = q := ⟨_, rfl⟩
 have e5 : (nn : Int) - (i : Int) = (en : Int) := by omega
 have hC : Hid (Cut ke d a m b s0 mid i en) := by
  have q1 := hmid.out
  have q2 := hlo.out
  have q3 := hhi.out
  refine ⟨ham, hmb, by rw [q1]; omega, by rw [q1]; omega, by rw [q1]; omega, by rw [q1]; omega, ?_, ?_⟩
  ·intro c c1 c2
   rw [q1, show mid + m - 1 - c = pp - c by omega]; exact q2 c c1 c2
  intro c c1 c2
  rw [q1, show mid + m - 1 - c = pp - c by omega]; exact q3 c c1 c2
 have hle : a ≤ i ∧ i ≤ m ∧ i ≤ mid ∧ en + i = nn ∧ nn = mid + m ∧ en ≤ b := by omega
 have hd0 := hlt
 have hj0 := hjb
 clear hSd hlo hhi hlt hpq hen k1'
 by_cases q1 : i < m
 rotate_left
 ·by_cases q2 : i < mid
  ·skip
   exact absurd hcs (by omega)
  exact absurd hcs (by omega)
 by_cases q2 : i < mid
 rotate_left
 ·skip
  have t1 : (i : Int) < (m : Int) := by omega
  have t2 : ¬ (m : Int) < (en : Int) := by omega
  have t3 : (a : Int) < (i : Int) := by omega
  have t4 : ¬ (i : Int) < (mid : Int) := by omega
  have t5 : (mid : Int) < (en : Int) := by omega
  have t6 : (en : Int) < (b : Int) := by omega
  have bb := lh (show a ≤ i ∧ i ≤ m ∧ i ≤ mid ∧ en + i = nn ∧ nn = mid + m ∧ en ≤ b ∧ m ≤ en ∧ mid ≤ en ∧ a < mid ∧ mid < b ∧ (i < m ∧ i < mid ∨ i = m ∨ i = mid) from by omega)
  have bc := lh (show i = mid ∧ en = m ∧ mid < en ∧ en < b from by omega)
  clear hle hd0 hj0
  go_wp2_with fail
  obtain ⟨e1, S1, R1, M1⟩ : ∃ e1, SD w0 base g n cap e1 wr ∧ (∀ k, e1.getD k 0 = rotF d i m en k) ∧ Mv i en d e1 := ⟨d, hSd'.out, fun k => (rotF_id (by have := bb.out; have := bc.out; omega) k).symm, Mv.refl _ _ _⟩
  have hsr := hC.out.srt hL.out hR.out R1
  rw [hmid.out] at hsr
  obtain ⟨s1, s2, s3, s4⟩ := hsr
  have N1 : ∀ x ∈ e1, x < N := fun x hx => hN.out x (M1.perm.mem_iff.1 hx)
  have xl := hC.out.left hX.out R1
  have xr := hC.out.right hX.out R1
  rw [hmid.out] at xl xr
  replace s1 := lh s1
  replace s2 := lh s2
  replace s3 := lh s3
  replace s4 := lh s4
  replace N1 := lh N1
  replace xl := lh xl
  replace xr := lh xr
  replace R1 := lh R1
  replace M1 := lh M1
  replace S1 := lh S1
  obtain ⟨e2, S2, M2, T2⟩ : ∃ e2, SD w0 base g n cap e2 wr ∧ Mv a mid e1 e2 ∧ Srt ke e2 a mid := ⟨e1, S1.out, Mv.refl _ _ _, Srt.both s1.out s2.out (by have := bb.out; have := bc.out; omega)⟩
  have s3' := lh (s3.out.mv M2 (.inl (Nat.le_refl _)))
  have s4' := lh (s4.out.mv M2 (.inl (by have := bb.out; omega)))
  have N2 := lh (fun x (hx : x ∈ e2) => N1.out x (M2.perm.mem_iff.1 hx))
  have xr' := lh (xr.out.mvA M2 (.inl (.inl (Nat.le_refl _))) (.inl (.inl (by have := bb.out; omega))))
  replace S2 := lh S2
  replace M2 := lh M2
  replace T2 := lh T2
  have hIr := lh (fun (w : World) (h : SD w0 base g n cap e2 w) => hIH.out mid en b e2 w (by have := bb.out; omega) h (by have := bc.out; have := bb.out; omega) (by have := bc.out; have := bb.out; omega) hb N2.out s3'.out s4'.out xr'.out)
  refine (hIr.out _ S2.out).mono ?_
  rintro e w7 ⟨rfl, e3, S3, M3, T3⟩
  replace S3 := lh S3
  replace M3 := lh M3
  replace T3 := lh T3
  go_wp2_with fail
  (first | go_end0 | go_ret)
  exact ⟨rfl, e3, S3.out, ((M1.out.wide (by have := bb.out; omega) (by have := bb.out; omega)).trans (M2.out.wide (Nat.le_refl _) (by have := bb.out; omega))).trans (M3.out.wide (by have := bb.out; omega) (Nat.le_refl _)), hC.out.fin hL.out hR.out R1.out (by rw [hmid.out]; exact M2.out) (by rw [hmid.out]; exact T2.out) (by rw [hmid.out]; exact M3.out) (by rw [hmid.out]; exact T3.out)⟩
 by_cases q3 : a < i
 rotate_left
 ·by_cases q4 : en < b
  ·skip
   have t1 : (i : Int) < (m : Int) := by omega
   have t2 : (m : Int) < (en : Int) := by omega
   have t3 : ¬ (a : Int) < (i : Int) := by omega
   have t5 : (mid : Int) < (en : Int) := by omega
   have t6 : (en : Int) < (b : Int) := by omega
   have hRo := lh (fun (w : World) (h : SD w0 base g n cap d w) F => rotate_any F i m en base g n cap d w0 w h (by omega) (by omega) (by omega) hn)
   have bb := lh (show a ≤ i ∧ i ≤ m ∧ i ≤ mid ∧ en + i = nn ∧ nn = mid + m ∧ en ≤ b ∧ m ≤ en ∧ mid ≤ en ∧ a < mid ∧ mid < b ∧ (i < m ∧ i < mid ∨ i = m ∨ i = mid) from by omega)
   have bc := lh (show ¬ a < i ∧ en < b ∧ mid < en from by omega)
   clear hle hd0 hj0
   go_wp2_with fail
   refine (hRo.out _ hSd'.out _).mono ?_
   rintro e w5 ⟨rfl, e1, S1, R1, M1⟩
   have hsr := hC.out.srt hL.out hR.out R1
   rw [hmid.out] at hsr
   obtain ⟨s1, s2, s3, s4⟩ := hsr
   have N1 : ∀ x ∈ e1, x < N := fun x hx => hN.out x (M1.perm.mem_iff.1 hx)
   have xl := hC.out.left hX.out R1
   have xr := hC.out.right hX.out R1
   rw [hmid.out] at xl xr
   replace s1 := lh s1
   replace s2 := lh s2
   replace s3 := lh s3
   replace s4 := lh s4
   replace N1 := lh N1
   replace xl := lh xl
   replace xr := lh xr
   replace R1 := lh R1
   replace M1 := lh M1
   replace S1 := lh S1
   obtain ⟨e2, S2, M2, T2⟩ : ∃ e2, SD w0 base g n cap e2 w5 ∧ Mv a mid e1 e2 ∧ Srt ke e2 a mid := ⟨e1, S1.out, Mv.refl _ _ _, Srt.both s1.out s2.out (by have := bb.out; have := bc.out; omega)⟩
   have s3' := lh (s3.out.mv M2 (.inl (Nat.le_refl _)))
   have s4' := lh (s4.out.mv M2 (.inl (by have := bb.out; omega)))
   have N2 := lh (fun x (hx : x ∈ e2) => N1.out x (M2.perm.mem_iff.1 hx))
   have xr' := lh (xr.out.mvA M2 (.inl (.inl (Nat.le_refl _))) (.inl (.inl (by have := bb.out; omega))))
   replace S2 := lh S2
   replace M2 := lh M2
   replace T2 := lh T2
   have hIr := lh (fun (w : World) (h : SD w0 base g n cap e2 w) => hIH.out mid en b e2 w (by have := bb.out; omega) h (by have := bc.out; have := bb.out; omega) (by have := bc.out; have := bb.out; omega) hb N2.out s3'.out s4'.out xr'.out)
   go_wp2_with fail
   refine (hIr.out _ S2.out).mono ?_
   rintro e w7 ⟨rfl, e3, S3, M3, T3⟩
   replace S3 := lh S3
   replace M3 := lh M3
   replace T3 := lh T3
   go_wp2_with fail
   (first | go_end0 | go_ret)
   exact ⟨rfl, e3, S3.out, ((M1.out.wide (by have := bb.out; omega) (by have := bb.out; omega)).trans (M2.out.wide (Nat.le_refl _) (by have := bb.out; omega))).trans (M3.out.wide (by have := bb.out; omega) (Nat.le_refl _)), hC.out.fin hL.out hR.out R1.out (by rw [hmid.out]; exact M2.out) (by rw [hmid.out]; exact T2.out) (by rw [hmid.out]; exact M3.out) (by rw [hmid.out]; exact T3.out)⟩
  have t1 : (i : Int) < (m : Int) := by omega
  have t2 : (m : Int) < (en : Int) := by omega
  have t3 : ¬ (a : Int) < (i : Int) := by omega
  have t5 : (mid : Int) < (en : Int) := by omega
  have t6 : ¬ (en : Int) < (b : Int) := by omega
  have hRo := lh (fun (w : World) (h : SD w0 base g n cap d w) F => rotate_any F i m en base g n cap d w0 w h (by omega) (by omega) (by omega) hn)
  have bb := lh (show a ≤ i ∧ i ≤ m ∧ i ≤ mid ∧ en + i = nn ∧ nn = mid + m ∧ en ≤ b ∧ m ≤ en ∧ mid ≤ en ∧ a < mid ∧ mid < b ∧ (i < m ∧ i < mid ∨ i = m ∨ i = mid) from by omega)
  have bc := lh (show ¬ a < i ∧ ¬ en < b from by omega)
  clear hle hd0 hj0
  go_wp2_with fail
  refine (hRo.out _ hSd'.out _).mono ?_
  rintro e w5 ⟨rfl, e1, S1, R1, M1⟩
  have hsr := hC.out.srt hL.out hR.out R1
  rw [hmid.out] at hsr
  obtain ⟨s1, s2, s3, s4⟩ := hsr
  have N1 : ∀ x ∈ e1, x < N := fun x hx => hN.out x (M1.perm.mem_iff.1 hx)
  have xl := hC.out.left hX.out R1
  have xr := hC.out.right hX.out R1
  rw [hmid.out] at xl xr
  replace s1 := lh s1
  replace s2 := lh s2
  replace s3 := lh s3
  replace s4 := lh s4
  replace N1 := lh N1
  replace xl := lh xl
  replace xr := lh xr
  replace R1 := lh R1
  replace M1 := lh M1
  replace S1 := lh S1
  obtain ⟨e2, S2, M2, T2⟩ : ∃ e2, SD w0 base g n cap e2 w5 ∧ Mv a mid e1 e2 ∧ Srt ke e2 a mid := ⟨e1, S1.out, Mv.refl _ _ _, Srt.both s1.out s2.out (by have := bb.out; have := bc.out; omega)⟩
  have s3' := lh (s3.out.mv M2 (.inl (Nat.le_refl _)))
  have s4' := lh (s4.out.mv M2 (.inl (by have := bb.out; omega)))
  have N2 := lh (fun x (hx : x ∈ e2) => N1.out x (M2.perm.mem_iff.1 hx))
  have xr' := lh (xr.out.mvA M2 (.inl (.inl (Nat.le_refl _))) (.inl (.inl (by have := bb.out; omega))))
  replace S2 := lh S2
  replace M2 := lh M2
  replace T2 := lh T2
  obtain ⟨e3, S3, M3, T3⟩ : ∃ e3, Hid (SD w0 base g n cap e3 w5) ∧ Hid (Mv mid b e2 e3) ∧ Hid (Srt ke e3 mid b) := ⟨e2, S2, Mv.refl _ _ _, Srt.both s3'.out s4'.out (by have := bb.out; have := bc.out; omega)⟩
  go_wp2_with fail
  (first | go_end0 | go_ret)
  exact ⟨rfl, e3, S3.out, ((M1.out.wide (by have := bb.out; omega) (by have := bb.out; omega)).trans (M2.out.wide (Nat.le_refl _) (by have := bb.out; omega))).trans (M3.out.wide (by have := bb.out; omega) (Nat.le_refl _)), hC.out.fin hL.out hR.out R1.out (by rw [hmid.out]; exact M2.out) (by rw [hmid.out]; exact T2.out) (by rw [hmid.out]; exact M3.out) (by rw [hmid.out]; exact T3.out)⟩
 by_cases q4 : en < b
 ·skip
  have t1 : (i : Int) < (m : Int) := by omega
  have t2 : (m : Int) < (en : Int) := by omega
  have t3 : (a : Int) < (i : Int) := by omega
  have t4 : (i : Int) < (mid : Int) := by omega
  have t5 : (mid : Int) < (en : Int) := by omega
  have t6 : (en : Int) < (b : Int) := by omega
  have hRo := lh (fun (w : World) (h : SD w0 base g n cap d w) F => rotate_any F i m en base g n cap d w0 w h (by omega) (by omega) (by omega) hn)
  have bb := lh (show a ≤ i ∧ i ≤ m ∧ i ≤ mid ∧ en + i = nn ∧ nn = mid + m ∧ en ≤ b ∧ m ≤ en ∧ mid ≤ en ∧ a < mid ∧ mid < b ∧ (i < m ∧ i < mid ∨ i = m ∨ i = mid) from by omega)
  have bc := lh (show a < i ∧ en < b ∧ mid < en ∧ i < mid from by omega)
  clear hle hd0 hj0
  go_wp2_with fail
  refine (hRo.out _ hSd'.out _).mono ?_
  rintro e w5 ⟨rfl, e1, S1, R1, M1⟩
  have hsr := hC.out.srt hL.out hR.out R1
  rw [hmid.out] at hsr
  obtain ⟨s1, s2, s3, s4⟩ := hsr
  have N1 : ∀ x ∈ e1, x < N := fun x hx => hN.out x (M1.perm.mem_iff.1 hx)
  have xl := hC.out.left hX.out R1
  have xr := hC.out.right hX.out R1
  rw [hmid.out] at xl xr
  replace s1 := lh s1
  replace s2 := lh s2
  replace s3 := lh s3
  replace s4 := lh s4
  replace N1 := lh N1
  replace xl := lh xl
  replace xr := lh xr
  replace R1 := lh R1
  replace M1 := lh M1
  replace S1 := lh S1
  have hIl := lh (fun (w : World) (h : SD w0 base g n cap e1 w) => hIH.out a i mid e1 w (by have := bb.out; omega) h (by have := bc.out; omega) (by have := bc.out; omega) (by have := bb.out; omega) N1.out s1.out s2.out xl.out)
  go_wp2_with fail
  refine (hIl.out _ S1.out).mono ?_
  rintro e w6 ⟨rfl, e2, S2, M2, T2⟩
  have s3' := lh (s3.out.mv M2 (.inl (Nat.le_refl _)))
  have s4' := lh (s4.out.mv M2 (.inl (by have := bb.out; omega)))
  have N2 := lh (fun x (hx : x ∈ e2) => N1.out x (M2.perm.mem_iff.1 hx))
  have xr' := lh (xr.out.mvA M2 (.inl (.inl (Nat.le_refl _))) (.inl (.inl (by have := bb.out; omega))))
  replace S2 := lh S2
  replace M2 := lh M2
  replace T2 := lh T2
  have hIr := lh (fun (w : World) (h : SD w0 base g n cap e2 w) => hIH.out mid en b e2 w (by have := bb.out; omega) h (by have := bc.out; have := bb.out; omega) (by have := bc.out; have := bb.out; omega) hb N2.out s3'.out s4'.out xr'.out)
  go_wp2_with fail
  refine (hIr.out _ S2.out).mono ?_
  rintro e w7 ⟨rfl, e3, S3, M3, T3⟩
  replace S3 := lh S3
  replace M3 := lh M3
  replace T3 := lh T3
  go_wp2_with fail
  (first | go_end0 | go_ret)
  exact ⟨rfl, e3, S3.out, ((M1.out.wide (by have := bb.out; omega) (by have := bb.out; omega)).trans (M2.out.wide (Nat.le_refl _) (by have := bb.out; omega))).trans (M3.out.wide (by have := bb.out; omega) (Nat.le_refl _)), hC.out.fin hL.out hR.out R1.out (by rw [hmid.out]; exact M2.out) (by rw [hmid.out]; exact T2.out) (by rw [hmid.out]; exact M3.out) (by rw [hmid.out]; exact T3.out)⟩
 have t1 : (i : Int) < (m : Int) := by omega
 have t2 : (m : Int) < (en : Int) := by omega
 have t3 : (a : Int) < (i : Int) := by omega
 have t4 : (i : Int) < (mid : Int) := by omega
 have t5 : (mid : Int) < (en : Int) := by omega
 have t6 : ¬ (en : Int) < (b : Int) := by omega
 have hRo := lh (fun (w : World) (h : SD w0 base g n cap d w) F => rotate_any F i m en base g n cap d w0 w h (by omega) (by omega) (by omega) hn)
 have bb := lh (show a ≤ i ∧ i ≤ m ∧ i ≤ mid ∧ en + i = nn ∧ nn = mid + m ∧ en ≤ b ∧ m ≤ en ∧ mid ≤ en ∧ a < mid ∧ mid < b ∧ (i < m ∧ i < mid ∨ i = m ∨ i = mid) from by omega)
 have bc := lh (show a < i ∧ ¬ en < b ∧ i < mid from by omega)
 clear hle hd0 hj0
 go_wp2_with fail
 refine (hRo.out _ hSd'.out _).mono ?_
 rintro e w5 ⟨rfl, e1, S1, R1, M1⟩
 have hsr := hC.out.srt hL.out hR.out R1
 rw [hmid.out] at hsr
 obtain ⟨s1, s2, s3, s4⟩ := hsr
 have N1 : ∀ x ∈ e1, x < N := fun x hx => hN.out x (M1.perm.mem_iff.1 hx)
 have xl := hC.out.left hX.out R1
 have xr := hC.out.right hX.out R1
 rw [hmid.out] at xl xr
 replace s1 := lh s1
 replace s2 := lh s2
 replace s3 := lh s3
 replace s4 := lh s4
 replace N1 := lh N1
 replace xl := lh xl
 replace xr := lh xr
 replace R1 := lh R1
 replace M1 := lh M1
 replace S1 := lh S1
 have hIl := lh (fun (w : World) (h : SD w0 base g n cap e1 w) => hIH.out a i mid e1 w (by have := bb.out; omega) h (by have := bc.out; omega) (by have := bc.out; omega) (by have := bb.out; omega) N1.out s1.out s2.out xl.out)
 go_wp2_with fail
 refine (hIl.out _ S1.out).mono ?_
 rintro e w6 ⟨rfl, e2, S2, M2, T2⟩
 have s3' := lh (s3.out.mv M2 (.inl (Nat.le_refl _)))
 have s4' := lh (s4.out.mv M2 (.inl (by have := bb.out; omega)))
 have N2 := lh (fun x (hx : x ∈ e2) => N1.out x (M2.perm.mem_iff.1 hx))
 have xr' := lh (xr.out.mvA M2 (.inl (.inl (Nat.le_refl _))) (.inl (.inl (by have := bb.out; omega))))
 replace S2 := lh S2
 replace M2 := lh M2
 replace T2 := lh T2
 obtain ⟨e3, S3, M3, T3⟩ : ∃ e3, Hid (SD w0 base g n cap e3 w6) ∧ Hid (Mv mid b e2 e3) ∧ Hid (Srt ke e3 mid b) := ⟨e2, S2, Mv.refl _ _ _, Srt.both s3'.out s4'.out (by have := bb.out; have := bc.out; omega)⟩
 go_wp2_with fail
 (first | go_end0 | go_ret)
 exact ⟨rfl, e3, S3.out, ((M1.out.wide (by have := bb.out; omega) (by have := bb.out; omega)).trans (M2.out.wide (Nat.le_refl _) (by have := bb.out; omega))).trans (M3.out.wide (by have := bb.out; omega) (Nat.le_refl _)), hC.out.fin hL.out hR.out R1.out (by rw [hmid.out]; exact M2.out) (by rw [hmid.out]; exact T2.out) (by rw [hmid.out]; exact M3.out) (by rw [hmid.out]; exact T3.out)⟩
theorem symMerge_low (cb : Array Value) (f ke : Nat → Int) (N base g n cap : Nat) (w0 : World) (a m b : Nat) (d : List Nat) (w : World) (HC : Hid (CmpOk cb f N base w0)) (K : Hid (Key N f ke)) (S0 : SD w0 base g n cap d w) (ham : a < m) (hmb : m < b) (hb : b ≤ n) (hn : n ≤ 100000)
 (hN : Hid (∀ x ∈ d, x < N)) (hL : Hid (Srt ke d a m)) (hR : Hid (Srt ke d m b)) (hX : Hid (Lss nI d a m m b)) (h1 : ¬ m = a + 1) (h2 : ¬ b = m + 1) (hIH : Hid (MergeOk cb ke N base g n cap w0 (b - a))) (hcs : m ≤ (a + b) / 2) :
 Calls Tryz.prog 217 #[.slice (some ⟨g, 0, none⟩) n cap, .int .i64 a, .int .i64 m, .int .i64 b, .func (.func 193) #[] cb] w (fun e w' => e = .returned (.tuple #[]) ∧ ∃ d1, SD w0 base g n cap d1 w' ∧ Mv a b d d1 ∧ Srt ke d1 a b) := by
 have hl0 := lh S0.len
 have z0 : ¬ (m : Int) - (a : Int) = 1 := by omega
 have z1 : ¬ (b : Int) - (m : Int) = 1 := by omega
 have z2 : (((m : Int) - (a : Int)) == 1) = false := by rw [beq_eq_false_iff_ne]; omega
 have z3 : (((b : Int) - (m : Int)) == 1) = false := by rw [beq_eq_false_iff_ne]; omega
 obtain ⟨mid, hmid⟩ : ∃ q, (a + b) / 2 = q := ⟨_, rfl⟩
 rw [hmid] at hcs
 obtain ⟨nn, hnn⟩ : ∃ q, mid + m = q := ⟨_, rfl⟩
 have b1 : a < mid := by omega
 have b2 : mid < b := by omega
 obtain ⟨sab, hsab⟩ : ∃ q, a + b = q := ⟨_, rfl⟩
 have e0 : (a : Int) + (b : Int) = (sab : Int) := by omega
 have e1 : (sab : Int) / 2 = (mid : Int) := by omega
 have e2 : (mid : Int) + (m : Int) = (nn : Int) := by omega
 have e3 : sab < 200001 := by omega
 obtain ⟨pp, hpp⟩ : ∃ q, nn = q + 1 := ⟨nn - 1, by omega⟩
 have e4 : (nn : Int) - 1 = (pp : Int) := by omega
 have c1 : ¬ (m : Int) > (mid : Int) := by omega
 have k1 : a ≤ a ∧ a ≤ m ∧ m ≤ m ∧ m ≤ mid ∧ nn ≤ a + b ∧ mid ≤ nn ∧ (m = m ∨ m = mid) ∧ (a = a ∨ a + b = nn) ∧ nn = mid + m ∧ nn < 200002 := by omega
 replace k1 := lh k1
 have k9 : nn < 200002 := by omega
 have k8 : pp < 200002 := by omega
 have hmid := lh hmid
 clear hnn hsab 
 replace hpp := lh hpp
 go_enter Tryz.func217, Tryz.ntmps217
 go_wp2_with fail
 go_loopw [20, 21] (fun u v wr => ∃ (i j : Nat), a ≤ i ∧ i ≤ j ∧ j ≤ m ∧ u = .int .i64 i ∧ v = .int .i64 j ∧ Hid (SD w0 base g n cap d wr) ∧ Hid (∀ c, a ≤ c → c < i → ke (d.getD c 0) < ke (d.getD (pp - c) 0)) ∧ Hid (∀ c, j ≤ c → c < m → ke (d.getD (pp - c) 0) < ke (d.getD c 0))) (fun u v _ => (intOf v).toNat - (intOf u).toNat)
 case atStart => exact ⟨a, m, Nat.le_refl _, k1.out.2.1, Nat.le_refl _, rfl, rfl, S0, fun q q1 q2 => by omega, fun q q1 q2 => by omega⟩
 obtain ⟨i, j, hmi, hij, hjb, rfl, rfl, hSd', hlo, hhi⟩ := hrel
 have hSd := hSd'.out
 have hpq := hpp.out
 have k1' := k1.out
 by_cases hlt : i < j
 ·have hltz : (i : Int) < (j : Int) := by omega
  obtain ⟨h, hh⟩ : ∃ h, (i + j) / 2 = h := ⟨_, rfl⟩
  have hn1 : h < n := by omega
  obtain ⟨s, hs⟩ : ∃ s, i + j = s := ⟨_, rfl⟩
  have h1 : (i : Int) + (j : Int) = (s : Int) := by omega
  have h2 : (s : Int) / 2 = (h : Int) := by omega
  have h3 : s < 200001 := by omega
  have ew3 : IntKind.i64.wrap (h : Int) = (h : Int) := by rw [IntKind.wrap_i64]; omega
  have bh : (h : Int) < (n : Int) := by omega
  obtain ⟨ph, hph⟩ : ∃ q, pp - h = q := ⟨_, rfl⟩
  have phn : ph < n := by omega
  have h4 : (pp : Int) - (h : Int) = (ph : Int) := by omega
  have bp : (ph : Int) < (n : Int) := by omega
  have ew5 : IntKind.i64.wrap (ph : Int) = (ph : Int) := by rw [IntKind.wrap_i64]; omega
  obtain ⟨x, hx⟩ : ∃ x, d.getD ph 0 = x := ⟨_, rfl⟩
  obtain ⟨y, hy⟩ : ∃ y, d.getD h 0 = y := ⟨_, rfl⟩
  have xN : x < N := by rw [← hx]; exact hN.out _ (getD_mem_ (by rw [hl0.out]; omega))
  have yN : y < N := by rw [← hy]; exact hN.out _ (getD_mem_ (by rw [hl0.out]; omega))
  have hyx : y < x := by rw [← hx, ← hy]; exact lss_lt hX.out (by omega) (by omega) (by omega) (by omega)
  obtain ⟨fx, hfx⟩ : ∃ z, f x = z := ⟨_, rfl⟩
  obtain ⟨fy, hfy⟩ : ∃ z, f y = z := ⟨_, rfl⟩
  by_cases hf : fx < fy
  ·have hke := K.out.lt x y hyx xN (by rw [hfx, hfy]; exact hf)
   rw [← hx, ← hy, ← hph] at hke
   have hhi2 := lh (find_hi (p := pp) (s0 := a) (r0 := m) hL.out hR.out hke k1.out.1 (by omega) (by omega) (by omega) (by omega))
   have g1 : fx - fy < 0 := by omega
   have g2 : decide (fx - fy < 0) = true := decide_eq_true g1
   replace hx := lh hx
   replace hy := lh hy
   replace hfx := lh hfx
   replace hfy := lh hfy
   have hh' := lh hh
   clear hke hh hs hph k1' hpq
   go_wp2_with fail
   refine wp_region_held_drew (S := (fun w' => SD w0 base g n cap d w')) (by kernel_rfl) ?_ (fun hHeld => ?_)
   ·(try dsimp only)
    (first | exact hSd.drew | exact hHeld.drew)
   refine takeL 0 (v := ?_) rfl (by kernel_rfl) (by kernel_rfl) (by kernel_rfl) (fun _ _ _ h => h) (by rfl) (by assumption) ?_ ?_
   rotate_left
   ·(intro w hSw; (try dsimp only at hSw); (have p0 := (hSw.cell ph phn).1; have p1 := (hSw.cell h hn1).1; rw [hx.out] at p0; rw [hy.out] at p1); go_simp <;> with_reducible rfl)
   try simp only [Act.put,sA,sB,sC]
   refine takeL 1 (v := ?_) rfl (by kernel_rfl) (by kernel_rfl) (by kernel_rfl) (fun _ _ _ h => h) (by rfl) (by assumption) ?_ ?_
   rotate_left
   ·(intro w hSw; (try dsimp only at hSw); (have p0 := (hSw.cell ph phn).1; have p1 := (hSw.cell h hn1).1; rw [hx.out] at p0; rw [hy.out] at p1); go_simp <;> with_reducible rfl)
   try simp only [Act.put,sA,sB,sC]
   refine takeL 2 (v := ?_) rfl (by kernel_rfl) (by kernel_rfl) (by kernel_rfl) (fun _ _ _ h => h) (by rfl) (by assumption) ?_ ?_
   rotate_left
   ·(intro w hSw; (try dsimp only at hSw); (have p0 := (hSw.cell ph phn).1; have p1 := (hSw.cell h hn1).1; rw [hx.out] at p0; rw [hy.out] at p1); go_simp <;> with_reducible rfl)
   try simp only [Act.put,sA,sB,sC]
   refine takeL 3 (v := ?_) rfl (by kernel_rfl) (by kernel_rfl) (by kernel_rfl) (fun _ _ _ h => h) (by rfl) (by assumption) ?_ ?_
   rotate_left
   ·(intro w hSw; (try dsimp only at hSw); (have p0 := (hSw.cell ph phn).1; have p1 := (hSw.cell h hn1).1; rw [hx.out] at p0; rw [hy.out] at p1); go_simp <;> with_reducible rfl)
   try simp only [Act.put,sA,sB,sC]
   refine takeL 4 (v := ?_) rfl (by kernel_rfl) (by kernel_rfl) (by kernel_rfl) (fun _ _ _ h => h) (by rfl) (by assumption) ?_ ?_
   rotate_left
   ·(intro w hSw; (try dsimp only at hSw); (have p0 := (hSw.cell ph phn).1; have p1 := (hSw.cell h hn1).1; rw [hx.out] at p0; rw [hy.out] at p1); go_simp <;> with_reducible rfl)
   try simp only [Act.put,sA,sB,sC]
   refine takeL 5 (v := ?_) rfl (by kernel_rfl) (by kernel_rfl) (by kernel_rfl) (fun _ _ _ h => h) (by rfl) (by assumption) ?_ ?_
   rotate_left
   ·(intro w hSw; (try dsimp only at hSw); (have p0 := (hSw.cell ph phn).1; have p1 := (hSw.cell h hn1).1; rw [hx.out] at p0; rw [hy.out] at p1); go_simp <;> with_reducible rfl)
   try simp only [Act.put,sA,sB,sC]
   refine takeL 6 (v := ?_) rfl (by kernel_rfl) (by kernel_rfl) (by kernel_rfl) (fun _ _ _ h => h) (by rfl) (by assumption) ?_ ?_
   rotate_left
   ·(intro w hSw; (try dsimp only at hSw); (have p0 := (hSw.cell ph phn).1; have p1 := (hSw.cell h hn1).1; rw [hx.out] at p0; rw [hy.out] at p1); go_simp <;> with_reducible rfl)
   try simp only [Act.put,sA,sB,sC]
   refine takeL 7 (v := ?_) rfl (by kernel_rfl) (by kernel_rfl) (by kernel_rfl) (fun _ _ _ h => h) (by rfl) (by assumption) ?_ ?_
   rotate_left
   ·(intro w hSw; (try dsimp only at hSw); (have p0 := (hSw.cell ph phn).1; have p1 := (hSw.cell h hn1).1; rw [hx.out] at p0; rw [hy.out] at p1); go_simp <;> with_reducible rfl)
   try simp only [Act.put,sA,sB,sC]
   refine takeL 8 (v := ?_) rfl (by kernel_rfl) (by kernel_rfl) (by kernel_rfl) (fun _ _ _ h => h) (by rfl) (by assumption) ?_ ?_
   rotate_left
   ·(intro w hSw; (try dsimp only at hSw); (have p0 := (hSw.cell ph phn).1; have p1 := (hSw.cell h hn1).1; rw [hx.out] at p0; rw [hy.out] at p1); go_simp <;> with_reducible rfl)
   try simp only [Act.put,sA,sB,sC]
   refine takeL 9 (v := ?_) rfl (by kernel_rfl) (by kernel_rfl) (by kernel_rfl) (fun _ _ _ h => h) (by rfl) (by assumption) ?_ ?_
   rotate_left
   ·(intro w hSw; (try dsimp only at hSw); (have p0 := (hSw.cell ph phn).1; have p1 := (hSw.cell h hn1).1; rw [hx.out] at p0; rw [hy.out] at p1); go_simp <;> with_reducible rfl)
   try simp only [Act.put,sA,sB,sC]
   refine takeL 10 (v := ?_) rfl (by kernel_rfl) (by kernel_rfl) (by kernel_rfl) (fun _ _ _ h => h) (by rfl) (by assumption) ?_ ?_
   rotate_left
   ·(intro w hSw; (try dsimp only at hSw); (have p0 := (hSw.cell ph phn).1; have p1 := (hSw.cell h hn1).1; rw [hx.out] at p0; rw [hy.out] at p1); go_simp <;> with_reducible rfl)
   try simp only [Act.put,sA,sB,sC]
   refine oneL 11 rfl (by kernel_rfl) (fun K hK => ?_)
   go_simp
   (have hq := HC.out _ x y hHeld.kept xN yN; rw [hfx.out, hfy.out] at hq; go_at_call 193; (with_reducible refine hq.mono ?_); rintro e w8 ⟨rfl, rfl⟩)
   refine hK.out _ _ ?_ (fun hHeld2 => ?_)
   ·(try dsimp only)
    (first | exact hSd.drew | exact hHeld.drew)
   clear hK K hHeld
   have hHeld := hHeld2
   clear hHeld2
   try simp only [Act.put,sA,sB,sC]
   refine takeL 12 (v := ?_) rfl (by kernel_rfl) (by kernel_rfl) (by kernel_rfl) (fun _ _ _ h => h) (by rfl) (by assumption) ?_ ?_
   rotate_left
   ·(intro w hSw; (try dsimp only at hSw); (have p0 := (hSw.cell ph phn).1; have p1 := (hSw.cell h hn1).1; rw [hx.out] at p0; rw [hy.out] at p1); go_simp <;> with_reducible rfl)
   try simp only [Act.put,sA,sB,sC]
   refine takeL 13 (v := ?_) rfl (by kernel_rfl) (by kernel_rfl) (by kernel_rfl) (fun _ _ _ h => h) (by rfl) (by assumption) ?_ ?_
   rotate_left
   ·(intro w hSw; (try dsimp only at hSw); (have p0 := (hSw.cell ph phn).1; have p1 := (hSw.cell h hn1).1; rw [hx.out] at p0; rw [hy.out] at p1); go_simp <;> with_reducible rfl)
   try simp only [Act.put,sA,sB,sC]
   refine wpAnyH_done (by kernel_rfl) ?_ _
   (try simp only [Exit.inBlock, Exit.then])
   replace hHeld := lh hHeld
   clear hSd
   go_wp2_with fail
   go_roundw
   case rel => exact ⟨i, h, hmi, by have := hh'.out; omega, by have := hh'.out; omega, rfl, rfl, hHeld, hlo, hhi2⟩
   have := hh'.out; first | (simp [intOf]; done) | (simp [intOf]; omega)
  have hke := K.out.ge x y hyx xN (by rw [hfx, hfy]; exact hf)
  rw [← hx, ← hy, ← hph] at hke
  have hlo2 := lh (find_lo (p := pp) (s0 := a) hL.out hR.out hke k1.out.1 (by omega) (by omega) (by omega))
  have g1 : ¬ fx - fy < 0 := by omega
  have g2 : decide (fx - fy < 0) = false := decide_eq_false g1
  replace hx := lh hx
  replace hy := lh hy
  replace hfx := lh hfx
  replace hfy := lh hfy
  have hh' := lh hh
  clear hke hh hs hph k1' hpq
  go_wp2_with fail
  refine wp_region_held_drew (S := (fun w' => SD w0 base g n cap d w')) (by kernel_rfl) ?_ (fun hHeld => ?_)
  ·(try dsimp only)
   (first | exact hSd.drew | exact hHeld.drew)
  refine takeL 0 (v := ?_) rfl (by kernel_rfl) (by kernel_rfl) (by kernel_rfl) (fun _ _ _ h => h) (by rfl) (by assumption) ?_ ?_
  rotate_left
  ·(intro w hSw; (try dsimp only at hSw); (have p0 := (hSw.cell ph phn).1; have p1 := (hSw.cell h hn1).1; rw [hx.out] at p0; rw [hy.out] at p1); go_simp <;> with_reducible rfl)
  try simp only [Act.put,sA,sB,sC]
  refine takeL 1 (v := ?_) rfl (by kernel_rfl) (by kernel_rfl) (by kernel_rfl) (fun _ _ _ h => h) (by rfl) (by assumption) ?_ ?_
  rotate_left
  ·(intro w hSw; (try dsimp only at hSw); (have p0 := (hSw.cell ph phn).1; have p1 := (hSw.cell h hn1).1; rw [hx.out] at p0; rw [hy.out] at p1); go_simp <;> with_reducible rfl)
  try simp only [Act.put,sA,sB,sC]
  refine takeL 2 (v := ?_) rfl (by kernel_rfl) (by kernel_rfl) (by kernel_rfl) (fun _ _ _ h => h) (by rfl) (by assumption) ?_ ?_
  rotate_left
  ·(intro w hSw; (try dsimp only at hSw); (have p0 := (hSw.cell ph phn).1; have p1 := (hSw.cell h hn1).1; rw [hx.out] at p0; rw [hy.out] at p1); go_simp <;> with_reducible rfl)
  try simp only [Act.put,sA,sB,sC]
  refine takeL 3 (v := ?_) rfl (by kernel_rfl) (by kernel_rfl) (by kernel_rfl) (fun _ _ _ h => h) (by rfl) (by assumption) ?_ ?_
  rotate_left
  ·(intro w hSw; (try dsimp only at hSw); (have p0 := (hSw.cell ph phn).1; have p1 := (hSw.cell h hn1).1; rw [hx.out] at p0; rw [hy.out] at p1); go_simp <;> with_reducible rfl)
  try simp only [Act.put,sA,sB,sC]
  refine takeL 4 (v := ?_) rfl (by kernel_rfl) (by kernel_rfl) (by kernel_rfl) (fun _ _ _ h => h) (by rfl) (by assumption) ?_ ?_
  rotate_left
  ·(intro w hSw; (try dsimp only at hSw); (have p0 := (hSw.cell ph phn).1; have p1 := (hSw.cell h hn1).1; rw [hx.out] at p0; rw [hy.out] at p1); go_simp <;> with_reducible rfl)
  try simp only [Act.put,sA,sB,sC]
  refine takeL 5 (v := ?_) rfl (by kernel_rfl) (by kernel_rfl) (by kernel_rfl) (fun _ _ _ h => h) (by rfl) (by assumption) ?_ ?_
  rotate_left
  ·(intro w hSw; (try dsimp only at hSw); (have p0 := (hSw.cell ph phn).1; have p1 := (hSw.cell h hn1).1; rw [hx.out] at p0; rw [hy.out] at p1); go_simp <;> with_reducible rfl)
  try simp only [Act.put,sA,sB,sC]
  refine takeL 6 (v := ?_) rfl (by kernel_rfl) (by kernel_rfl) (by kernel_rfl) (fun _ _ _ h => h) (by rfl) (by assumption) ?_ ?_
  rotate_left
  ·(intro w hSw; (try dsimp only at hSw); (have p0 := (hSw.cell ph phn).1; have p1 := (hSw.cell h hn1).1; rw [hx.out] at p0; rw [hy.out] at p1); go_simp <;> with_reducible rfl)
  try simp only [Act.put,sA,sB,sC]
  refine takeL 7 (v := ?_) rfl (by kernel_rfl) (by kernel_rfl) (by kernel_rfl) (fun _ _ _ h => h) (by rfl) (by assumption) ?_ ?_
  rotate_left
  ·(intro w hSw; (try dsimp only at hSw); (have p0 := (hSw.cell ph phn).1; have p1 := (hSw.cell h hn1).1; rw [hx.out] at p0; rw [hy.out] at p1); go_simp <;> with_reducible rfl)
  try simp only [Act.put,sA,sB,sC]
  refine takeL 8 (v := ?_) rfl (by kernel_rfl) (by kernel_rfl) (by kernel_rfl) (fun _ _ _ h => h) (by rfl) (by assumption) ?_ ?_
  rotate_left
  ·(intro w hSw; (try dsimp only at hSw); (have p0 := (hSw.cell ph phn).1; have p1 := (hSw.cell h hn1).1; rw [hx.out] at p0; rw [hy.out] at p1); go_simp <;> with_reducible rfl)
  try simp only [Act.put,sA,sB,sC]
  refine takeL 9 (v := ?_) rfl (by kernel_rfl) (by kernel_rfl) (by kernel_rfl) (fun _ _ _ h => h) (by rfl) (by assumption) ?_ ?_
  rotate_left
  ·(intro w hSw; (try dsimp only at hSw); (have p0 := (hSw.cell ph phn).1; have p1 := (hSw.cell h hn1).1; rw [hx.out] at p0; rw [hy.out] at p1); go_simp <;> with_reducible rfl)
  try simp only [Act.put,sA,sB,sC]
  refine takeL 10 (v := ?_) rfl (by kernel_rfl) (by kernel_rfl) (by kernel_rfl) (fun _ _ _ h => h) (by rfl) (by assumption) ?_ ?_
  rotate_left
  ·(intro w hSw; (try dsimp only at hSw); (have p0 := (hSw.cell ph phn).1; have p1 := (hSw.cell h hn1).1; rw [hx.out] at p0; rw [hy.out] at p1); go_simp <;> with_reducible rfl)
  try simp only [Act.put,sA,sB,sC]
  refine oneL 11 rfl (by kernel_rfl) (fun K hK => ?_)
  go_simp
  (have hq := HC.out _ x y hHeld.kept xN yN; rw [hfx.out, hfy.out] at hq; go_at_call 193; (with_reducible refine hq.mono ?_); rintro e w8 ⟨rfl, rfl⟩)
  refine hK.out _ _ ?_ (fun hHeld2 => ?_)
  ·(try dsimp only)
   (first | exact hSd.drew | exact hHeld.drew)
  clear hK K hHeld
  have hHeld := hHeld2
  clear hHeld2
  try simp only [Act.put,sA,sB,sC]
  refine takeL 12 (v := ?_) rfl (by kernel_rfl) (by kernel_rfl) (by kernel_rfl) (fun _ _ _ h => h) (by rfl) (by assumption) ?_ ?_
  rotate_left
  ·(intro w hSw; (try dsimp only at hSw); (have p0 := (hSw.cell ph phn).1; have p1 := (hSw.cell h hn1).1; rw [hx.out] at p0; rw [hy.out] at p1); go_simp <;> with_reducible rfl)
  try simp only [Act.put,sA,sB,sC]
  refine takeL 13 (v := ?_) rfl (by kernel_rfl) (by kernel_rfl) (by kernel_rfl) (fun _ _ _ h => h) (by rfl) (by assumption) ?_ ?_
  rotate_left
  ·(intro w hSw; (try dsimp only at hSw); (have p0 := (hSw.cell ph phn).1; have p1 := (hSw.cell h hn1).1; rw [hx.out] at p0; rw [hy.out] at p1); go_simp <;> with_reducible rfl)
  try simp only [Act.put,sA,sB,sC]
  refine wpAnyH_done (by kernel_rfl) ?_ _
  (try simp only [Exit.inBlock, Exit.then])
  replace hHeld := lh hHeld
  clear hSd
  go_wp2_with fail
  go_roundw
  case rel => exact ⟨h + 1, j, by omega, by have := hh'.out; omega, hjb, by go_num, rfl, hHeld, hlo2, hhi⟩
  have := hh'.out; first | (simp [intOf]; done) | (simp [intOf]; omega)
 obtain rfl : i = j := by omega
 obtain ⟨en, hen⟩ : ∃ q, nn - i = q := ⟨_, rfl⟩
 have e5 : (nn : Int) - (i : Int) = (en : Int) := by omega
 have hC : Hid (Cut ke d a m b a m i en) := by
  have q1 := hmid.out
  have q2 := hlo.out
  have q3 := hhi.out
  refine ⟨ham, hmb, by rw [q1]; omega, by rw [q1]; omega, by rw [q1]; omega, by rw [q1]; omega, ?_, ?_⟩
  ·intro c c1 c2
   rw [q1, show mid + m - 1 - c = pp - c by omega]; exact q2 c c1 c2
  intro c c1 c2
  rw [q1, show mid + m - 1 - c = pp - c by omega]; exact q3 c c1 c2
 have hle : a ≤ i ∧ i ≤ m ∧ i ≤ mid ∧ en + i = nn ∧ nn = mid + m ∧ en ≤ b := by omega
 have hd0 := hlt
 have hj0 := hjb
 clear hSd hlo hhi hlt hpq hen k1'
 by_cases q1 : i < m
 rotate_left
 ·by_cases q2 : i < mid
  ·skip
   have t1 : ¬ (i : Int) < (m : Int) := by omega
   have t3 : (a : Int) < (i : Int) := by omega
   have t4 : (i : Int) < (mid : Int) := by omega
   have t5 : ¬ (mid : Int) < (en : Int) := by omega
   have bb := lh (show a ≤ i ∧ i ≤ m ∧ i ≤ mid ∧ en + i = nn ∧ nn = mid + m ∧ en ≤ b ∧ m ≤ en ∧ mid ≤ en ∧ a < mid ∧ mid < b ∧ (i < m ∧ i < mid ∨ i = m ∨ i = mid) from by omega)
   have bc := lh (show i = m ∧ a < i ∧ i < mid ∧ en = mid from by omega)
   clear hle hd0 hj0
   go_wp2_with fail
   obtain ⟨e1, S1, R1, M1⟩ : ∃ e1, SD w0 base g n cap e1 wr ∧ (∀ k, e1.getD k 0 = rotF d i m en k) ∧ Mv i en d e1 := ⟨d, hSd'.out, fun k => (rotF_id (by have := bb.out; have := bc.out; omega) k).symm, Mv.refl _ _ _⟩
   have hsr := hC.out.srt hL.out hR.out R1
   rw [hmid.out] at hsr
   obtain ⟨s1, s2, s3, s4⟩ := hsr
   have N1 : ∀ x ∈ e1, x < N := fun x hx => hN.out x (M1.perm.mem_iff.1 hx)
   have xl := hC.out.left hX.out R1
   have xr := hC.out.right hX.out R1
   rw [hmid.out] at xl xr
   replace s1 := lh s1
   replace s2 := lh s2
   replace s3 := lh s3
   replace s4 := lh s4
   replace N1 := lh N1
   replace xl := lh xl
   replace xr := lh xr
   replace R1 := lh R1
   replace M1 := lh M1
   replace S1 := lh S1
   have hIl := lh (fun (w : World) (h : SD w0 base g n cap e1 w) => hIH.out a i mid e1 w (by have := bb.out; omega) h (by have := bc.out; omega) (by have := bc.out; omega) (by have := bb.out; omega) N1.out s1.out s2.out xl.out)
   refine (hIl.out _ S1.out).mono ?_
   rintro e w6 ⟨rfl, e2, S2, M2, T2⟩
   have s3' := lh (s3.out.mv M2 (.inl (Nat.le_refl _)))
   have s4' := lh (s4.out.mv M2 (.inl (by have := bb.out; omega)))
   have N2 := lh (fun x (hx : x ∈ e2) => N1.out x (M2.perm.mem_iff.1 hx))
   have xr' := lh (xr.out.mvA M2 (.inl (.inl (Nat.le_refl _))) (.inl (.inl (by have := bb.out; omega))))
   replace S2 := lh S2
   replace M2 := lh M2
   replace T2 := lh T2
   obtain ⟨e3, S3, M3, T3⟩ : ∃ e3, Hid (SD w0 base g n cap e3 w6) ∧ Hid (Mv mid b e2 e3) ∧ Hid (Srt ke e3 mid b) := ⟨e2, S2, Mv.refl _ _ _, Srt.both s3'.out s4'.out (by have := bb.out; have := bc.out; omega)⟩
   go_wp2_with fail
   (first | go_end0 | go_ret)
   exact ⟨rfl, e3, S3.out, ((M1.out.wide (by have := bb.out; omega) (by have := bb.out; omega)).trans (M2.out.wide (Nat.le_refl _) (by have := bb.out; omega))).trans (M3.out.wide (by have := bb.out; omega) (Nat.le_refl _)), hC.out.fin hL.out hR.out R1.out (by rw [hmid.out]; exact M2.out) (by rw [hmid.out]; exact T2.out) (by rw [hmid.out]; exact M3.out) (by rw [hmid.out]; exact T3.out)⟩
  have t1 : ¬ (i : Int) < (m : Int) := by omega
  have t3 : (a : Int) < (i : Int) := by omega
  have t4 : ¬ (i : Int) < (mid : Int) := by omega
  have t5 : ¬ (mid : Int) < (en : Int) := by omega
  have bb := lh (show a ≤ i ∧ i ≤ m ∧ i ≤ mid ∧ en + i = nn ∧ nn = mid + m ∧ en ≤ b ∧ m ≤ en ∧ mid ≤ en ∧ a < mid ∧ mid < b ∧ (i < m ∧ i < mid ∨ i = m ∨ i = mid) from by omega)
  have bc := lh (show i = m ∧ i = mid ∧ en = mid from by omega)
  clear hle hd0 hj0
  go_wp2_with fail
  obtain ⟨e1, S1, R1, M1⟩ : ∃ e1, SD w0 base g n cap e1 wr ∧ (∀ k, e1.getD k 0 = rotF d i m en k) ∧ Mv i en d e1 := ⟨d, hSd'.out, fun k => (rotF_id (by have := bb.out; have := bc.out; omega) k).symm, Mv.refl _ _ _⟩
  have hsr := hC.out.srt hL.out hR.out R1
  rw [hmid.out] at hsr
  obtain ⟨s1, s2, s3, s4⟩ := hsr
  have N1 : ∀ x ∈ e1, x < N := fun x hx => hN.out x (M1.perm.mem_iff.1 hx)
  have xl := hC.out.left hX.out R1
  have xr := hC.out.right hX.out R1
  rw [hmid.out] at xl xr
  replace s1 := lh s1
  replace s2 := lh s2
  replace s3 := lh s3
  replace s4 := lh s4
  replace N1 := lh N1
  replace xl := lh xl
  replace xr := lh xr
  replace R1 := lh R1
  replace M1 := lh M1
  replace S1 := lh S1
  obtain ⟨e2, S2, M2, T2⟩ : ∃ e2, SD w0 base g n cap e2 wr ∧ Mv a mid e1 e2 ∧ Srt ke e2 a mid := ⟨e1, S1.out, Mv.refl _ _ _, Srt.both s1.out s2.out (by have := bb.out; have := bc.out; omega)⟩
  have s3' := lh (s3.out.mv M2 (.inl (Nat.le_refl _)))
  have s4' := lh (s4.out.mv M2 (.inl (by have := bb.out; omega)))
  have N2 := lh (fun x (hx : x ∈ e2) => N1.out x (M2.perm.mem_iff.1 hx))
  have xr' := lh (xr.out.mvA M2 (.inl (.inl (Nat.le_refl _))) (.inl (.inl (by have := bb.out; omega))))
  replace S2 := lh S2
  replace M2 := lh M2
  replace T2 := lh T2
  obtain ⟨e3, S3, M3, T3⟩ : ∃ e3, Hid (SD w0 base g n cap e3 wr) ∧ Hid (Mv mid b e2 e3) ∧ Hid (Srt ke e3 mid b) := ⟨e2, S2, Mv.refl _ _ _, Srt.both s3'.out s4'.out (by have := bb.out; have := bc.out; omega)⟩
  (first | go_end0 | go_ret)
  exact ⟨rfl, e3, S3.out, ((M1.out.wide (by have := bb.out; omega) (by have := bb.out; omega)).trans (M2.out.wide (Nat.le_refl _) (by have := bb.out; omega))).trans (M3.out.wide (by have := bb.out; omega) (Nat.le_refl _)), hC.out.fin hL.out hR.out R1.out (by rw [hmid.out]; exact M2.out) (by rw [hmid.out]; exact T2.out) (by rw [hmid.out]; exact M3.out) (by rw [hmid.out]; exact T3.out)⟩
 by_cases q2 : i < mid
 rotate_left
 ·skip
  exact absurd hcs (by omega)
 by_cases q3 : a < i
 rotate_left
 ·by_cases q4 : en < b
  ·skip
   have t1 : (i : Int) < (m : Int) := by omega
   have t2 : (m : Int) < (en : Int) := by omega
   have t3 : ¬ (a : Int) < (i : Int) := by omega
   have t5 : (mid : Int) < (en : Int) := by omega
   have t6 : (en : Int) < (b : Int) := by omega
   have hRo := lh (fun (w : World) (h : SD w0 base g n cap d w) F => rotate_any F i m en base g n cap d w0 w h (by omega) (by omega) (by omega) hn)
   have bb := lh (show a ≤ i ∧ i ≤ m ∧ i ≤ mid ∧ en + i = nn ∧ nn = mid + m ∧ en ≤ b ∧ m ≤ en ∧ mid ≤ en ∧ a < mid ∧ mid < b ∧ (i < m ∧ i < mid ∨ i = m ∨ i = mid) from by omega)
   have bc := lh (show ¬ a < i ∧ en < b ∧ mid < en from by omega)
   clear hle hd0 hj0
   go_wp2_with fail
   refine (hRo.out _ hSd'.out _).mono ?_
   rintro e w5 ⟨rfl, e1, S1, R1, M1⟩
   have hsr := hC.out.srt hL.out hR.out R1
   rw [hmid.out] at hsr
   obtain ⟨s1, s2, s3, s4⟩ := hsr
   have N1 : ∀ x ∈ e1, x < N := fun x hx => hN.out x (M1.perm.mem_iff.1 hx)
   have xl := hC.out.left hX.out R1
   have xr := hC.out.right hX.out R1
   rw [hmid.out] at xl xr
   replace s1 := lh s1
   replace s2 := lh s2
   replace s3 := lh s3
   replace s4 := lh s4
   replace N1 := lh N1
   replace xl := lh xl
   replace xr := lh xr
   replace R1 := lh R1
   replace M1 := lh M1
   replace S1 := lh S1
   obtain ⟨e2, S2, M2, T2⟩ : ∃ e2, SD w0 base g n cap e2 w5 ∧ Mv a mid e1 e2 ∧ Srt ke e2 a mid := ⟨e1, S1.out, Mv.refl _ _ _, Srt.both s1.out s2.out (by have := bb.out; have := bc.out; omega)⟩
   have s3' := lh (s3.out.mv M2 (.inl (Nat.le_refl _)))
   have s4' := lh (s4.out.mv M2 (.inl (by have := bb.out; omega)))
   have N2 := lh (fun x (hx : x ∈ e2) => N1.out x (M2.perm.mem_iff.1 hx))
   have xr' := lh (xr.out.mvA M2 (.inl (.inl (Nat.le_refl _))) (.inl (.inl (by have := bb.out; omega))))
   replace S2 := lh S2
   replace M2 := lh M2
   replace T2 := lh T2
   have hIr := lh (fun (w : World) (h : SD w0 base g n cap e2 w) => hIH.out mid en b e2 w (by have := bb.out; omega) h (by have := bc.out; have := bb.out; omega) (by have := bc.out; have := bb.out; omega) hb N2.out s3'.out s4'.out xr'.out)
   go_wp2_with fail
   refine (hIr.out _ S2.out).mono ?_
   rintro e w7 ⟨rfl, e3, S3, M3, T3⟩
   replace S3 := lh S3
   replace M3 := lh M3
   replace T3 := lh T3
   go_wp2_with fail
   (first | go_end0 | go_ret)
   exact ⟨rfl, e3, S3.out, ((M1.out.wide (by have := bb.out; omega) (by have := bb.out; omega)).trans (M2.out.wide (Nat.le_refl _) (by have := bb.out; omega))).trans (M3.out.wide (by have := bb.out; omega) (Nat.le_refl _)), hC.out.fin hL.out hR.out R1.out (by rw [hmid.out]; exact M2.out) (by rw [hmid.out]; exact T2.out) (by rw [hmid.out]; exact M3.out) (by rw [hmid.out]; exact T3.out)⟩
  have t1 : (i : Int) < (m : Int) := by omega
  have t2 : (m : Int) < (en : Int) := by omega
  have t3 : ¬ (a : Int) < (i : Int) := by omega
  have t5 : (mid : Int) < (en : Int) := by omega
  have t6 : ¬ (en : Int) < (b : Int) := by omega
  have hRo := lh (fun (w : World) (h : SD w0 base g n cap d w) F => rotate_any F i m en base g n cap d w0 w h (by omega) (by omega) (by omega) hn)
  have bb := lh (show a ≤ i ∧ i ≤ m ∧ i ≤ mid ∧ en + i = nn ∧ nn = mid + m ∧ en ≤ b ∧ m ≤ en ∧ mid ≤ en ∧ a < mid ∧ mid < b ∧ (i < m ∧ i < mid ∨ i = m ∨ i = mid) from by omega)
  have bc := lh (show ¬ a < i ∧ ¬ en < b from by omega)
  clear hle hd0 hj0
  go_wp2_with fail
  refine (hRo.out _ hSd'.out _).mono ?_
  rintro e w5 ⟨rfl, e1, S1, R1, M1⟩
  have hsr := hC.out.srt hL.out hR.out R1
  rw [hmid.out] at hsr
  obtain ⟨s1, s2, s3, s4⟩ := hsr
  have N1 : ∀ x ∈ e1, x < N := fun x hx => hN.out x (M1.perm.mem_iff.1 hx)
  have xl := hC.out.left hX.out R1
  have xr := hC.out.right hX.out R1
  rw [hmid.out] at xl xr
  replace s1 := lh s1
  replace s2 := lh s2
  replace s3 := lh s3
  replace s4 := lh s4
  replace N1 := lh N1
  replace xl := lh xl
  replace xr := lh xr
  replace R1 := lh R1
  replace M1 := lh M1
  replace S1 := lh S1
  obtain ⟨e2, S2, M2, T2⟩ : ∃ e2, SD w0 base g n cap e2 w5 ∧ Mv a mid e1 e2 ∧ Srt ke e2 a mid := ⟨e1, S1.out, Mv.refl _ _ _, Srt.both s1.out s2.out (by have := bb.out; have := bc.out; omega)⟩
  have s3' := lh (s3.out.mv M2 (.inl (Nat.le_refl _)))
  have s4' := lh (s4.out.mv M2 (.inl (by have := bb.out; omega)))
  have N2 := lh (fun x (hx : x ∈ e2) => N1.out x (M2.perm.mem_iff.1 hx))
  have xr' := lh (xr.out.mvA M2 (.inl (.inl (Nat.le_refl _))) (.inl (.inl (by have := bb.out; omega))))
  replace S2 := lh S2
  replace M2 := lh M2
  replace T2 := lh T2
  obtain ⟨e3, S3, M3, T3⟩ : ∃ e3, Hid (SD w0 base g n cap e3 w5) ∧ Hid (Mv mid b e2 e3) ∧ Hid (Srt ke e3 mid b) := ⟨e2, S2, Mv.refl _ _ _, Srt.both s3'.out s4'.out (by have := bb.out; have := bc.out; omega)⟩
  go_wp2_with fail
  (first | go_end0 | go_ret)
  exact ⟨rfl, e3, S3.out, ((M1.out.wide (by have := bb.out; omega) (by have := bb.out; omega)).trans (M2.out.wide (Nat.le_refl _) (by have := bb.out; omega))).trans (M3.out.wide (by have := bb.out; omega) (Nat.le_refl _)), hC.out.fin hL.out hR.out R1.out (by rw [hmid.out]; exact M2.out) (by rw [hmid.out]; exact T2.out) (by rw [hmid.out]; exact M3.out) (by rw [hmid.out]; exact T3.out)⟩
 by_cases q4 : en < b
 ·skip
  have t1 : (i : Int) < (m : Int) := by omega
  have t2 : (m : Int) < (en : Int) := by omega
  have t3 : (a : Int) < (i : Int) := by omega
  have t4 : (i : Int) < (mid : Int) := by omega
  have t5 : (mid : Int) < (en : Int) := by omega
  have t6 : (en : Int) < (b : Int) := by omega
  have hRo := lh (fun (w : World) (h : SD w0 base g n cap d w) F => rotate_any F i m en base g n cap d w0 w h (by omega) (by omega) (by omega) hn)
  have bb := lh (show a ≤ i ∧ i ≤ m ∧ i ≤ mid ∧ en + i = nn ∧ nn = mid + m ∧ en ≤ b ∧ m ≤ en ∧ mid ≤ en ∧ a < mid ∧ mid < b ∧ (i < m ∧ i < mid ∨ i = m ∨ i = mid) from by omega)
  have bc := lh (show a < i ∧ en < b ∧ mid < en ∧ i < mid from by omega)
  clear hle hd0 hj0
  go_wp2_with fail
  refine (hRo.out _ hSd'.out _).mono ?_
  rintro e w5 ⟨rfl, e1, S1, R1, M1⟩
  have hsr := hC.out.srt hL.out hR.out R1
  rw [hmid.out] at hsr
  obtain ⟨s1, s2, s3, s4⟩ := hsr
  have N1 : ∀ x ∈ e1, x < N := fun x hx => hN.out x (M1.perm.mem_iff.1 hx)
  have xl := hC.out.left hX.out R1
  have xr := hC.out.right hX.out R1
  rw [hmid.out] at xl xr
  replace s1 := lh s1
  replace s2 := lh s2
  replace s3 := lh s3
  replace s4 := lh s4
  replace N1 := lh N1
  replace xl := lh xl
  replace xr := lh xr
  replace R1 := lh R1
  replace M1 := lh M1
  replace S1 := lh S1
  have hIl := lh (fun (w : World) (h : SD w0 base g n cap e1 w) => hIH.out a i mid e1 w (by have := bb.out; omega) h (by have := bc.out; omega) (by have := bc.out; omega) (by have := bb.out; omega) N1.out s1.out s2.out xl.out)
  go_wp2_with fail
  refine (hIl.out _ S1.out).mono ?_
  rintro e w6 ⟨rfl, e2, S2, M2, T2⟩
  have s3' := lh (s3.out.mv M2 (.inl (Nat.le_refl _)))
  have s4' := lh (s4.out.mv M2 (.inl (by have := bb.out; omega)))
  have N2 := lh (fun x (hx : x ∈ e2) => N1.out x (M2.perm.mem_iff.1 hx))
  have xr' := lh (xr.out.mvA M2 (.inl (.inl (Nat.le_refl _))) (.inl (.inl (by have := bb.out; omega))))
  replace S2 := lh S2
  replace M2 := lh M2
  replace T2 := lh T2
  have hIr := lh (fun (w : World) (h : SD w0 base g n cap e2 w) => hIH.out mid en b e2 w (by have := bb.out; omega) h (by have := bc.out; have := bb.out; omega) (by have := bc.out; have := bb.out; omega) hb N2.out s3'.out s4'.out xr'.out)
  go_wp2_with fail
  refine (hIr.out _ S2.out).mono ?_
  rintro e w7 ⟨rfl, e3, S3, M3, T3⟩
  replace S3 := lh S3
  replace M3 := lh M3
  replace T3 := lh T3
  go_wp2_with fail
  (first | go_end0 | go_ret)
  exact ⟨rfl, e3, S3.out, ((M1.out.wide (by have := bb.out; omega) (by have := bb.out; omega)).trans (M2.out.wide (Nat.le_refl _) (by have := bb.out; omega))).trans (M3.out.wide (by have := bb.out; omega) (Nat.le_refl _)), hC.out.fin hL.out hR.out R1.out (by rw [hmid.out]; exact M2.out) (by rw [hmid.out]; exact T2.out) (by rw [hmid.out]; exact M3.out) (by rw [hmid.out]; exact T3.out)⟩
 have t1 : (i : Int) < (m : Int) := by omega
 have t2 : (m : Int) < (en : Int) := by omega
 have t3 : (a : Int) < (i : Int) := by omega
 have t4 : (i : Int) < (mid : Int) := by omega
 have t5 : (mid : Int) < (en : Int) := by omega
 have t6 : ¬ (en : Int) < (b : Int) := by omega
 have hRo := lh (fun (w : World) (h : SD w0 base g n cap d w) F => rotate_any F i m en base g n cap d w0 w h (by omega) (by omega) (by omega) hn)
 have bb := lh (show a ≤ i ∧ i ≤ m ∧ i ≤ mid ∧ en + i = nn ∧ nn = mid + m ∧ en ≤ b ∧ m ≤ en ∧ mid ≤ en ∧ a < mid ∧ mid < b ∧ (i < m ∧ i < mid ∨ i = m ∨ i = mid) from by omega)
 have bc := lh (show a < i ∧ ¬ en < b ∧ i < mid from by omega)
 clear hle hd0 hj0
 go_wp2_with fail
 refine (hRo.out _ hSd'.out _).mono ?_
 rintro e w5 ⟨rfl, e1, S1, R1, M1⟩
 have hsr := hC.out.srt hL.out hR.out R1
 rw [hmid.out] at hsr
 obtain ⟨s1, s2, s3, s4⟩ := hsr
 have N1 : ∀ x ∈ e1, x < N := fun x hx => hN.out x (M1.perm.mem_iff.1 hx)
 have xl := hC.out.left hX.out R1
 have xr := hC.out.right hX.out R1
 rw [hmid.out] at xl xr
 replace s1 := lh s1
 replace s2 := lh s2
 replace s3 := lh s3
 replace s4 := lh s4
 replace N1 := lh N1
 replace xl := lh xl
 replace xr := lh xr
 replace R1 := lh R1
 replace M1 := lh M1
 replace S1 := lh S1
 have hIl := lh (fun (w : World) (h : SD w0 base g n cap e1 w) => hIH.out a i mid e1 w (by have := bb.out; omega) h (by have := bc.out; omega) (by have := bc.out; omega) (by have := bb.out; omega) N1.out s1.out s2.out xl.out)
 go_wp2_with fail
 refine (hIl.out _ S1.out).mono ?_
 rintro e w6 ⟨rfl, e2, S2, M2, T2⟩
 have s3' := lh (s3.out.mv M2 (.inl (Nat.le_refl _)))
 have s4' := lh (s4.out.mv M2 (.inl (by have := bb.out; omega)))
 have N2 := lh (fun x (hx : x ∈ e2) => N1.out x (M2.perm.mem_iff.1 hx))
 have xr' := lh (xr.out.mvA M2 (.inl (.inl (Nat.le_refl _))) (.inl (.inl (by have := bb.out; omega))))
 replace S2 := lh S2
 replace M2 := lh M2
 replace T2 := lh T2
 obtain ⟨e3, S3, M3, T3⟩ : ∃ e3, Hid (SD w0 base g n cap e3 w6) ∧ Hid (Mv mid b e2 e3) ∧ Hid (Srt ke e3 mid b) := ⟨e2, S2, Mv.refl _ _ _, Srt.both s3'.out s4'.out (by have := bb.out; have := bc.out; omega)⟩
 go_wp2_with fail
 (first | go_end0 | go_ret)
 exact ⟨rfl, e3, S3.out, ((M1.out.wide (by have := bb.out; omega) (by have := bb.out; omega)).trans (M2.out.wide (Nat.le_refl _) (by have := bb.out; omega))).trans (M3.out.wide (by have := bb.out; omega) (Nat.le_refl _)), hC.out.fin hL.out hR.out R1.out (by rw [hmid.out]; exact M2.out) (by rw [hmid.out]; exact T2.out) (by rw [hmid.out]; exact M3.out) (by rw [hmid.out]; exact T3.out)⟩
theorem symMerge_ok (cb : Array Value) (f ke : Nat → Int) (N base g n cap : Nat) (w0 : World) (HC : Hid (CmpOk cb f N base w0)) (K : Hid (Key N f ke)) (hn : n ≤ 100000) : ∀ L, MergeOk cb ke N base g n cap w0 L
 | 0 => fun a m b d w h => absurd h (by omega)
 | L + 1 => fun a m b d w hl S0 ham hmb hb hN hL hR hX => by
   by_cases h1 : m = a + 1
   ·exact symMerge_one cb f ke N base g n cap w0 a m b d w HC K S0 ham hmb hb hn hN hL hR hX h1
   ·by_cases h2 : b = m + 1
    ·exact symMerge_last cb f ke N base g n cap w0 a m b d w HC K S0 ham hmb hb hn hN hL hR hX h1 h2
    ·have hIH : MergeOk cb ke N base g n cap w0 (b - a) := fun a' m' b' d' w' hl' => symMerge_ok cb f ke N base g n cap w0 HC K hn L a' m' b' d' w' (by omega)
     by_cases hcs : (a + b) / 2 < m
     ·exact symMerge_high cb f ke N base g n cap w0 a m b d w HC K S0 ham hmb hb hn hN hL hR hX h1 h2 hIH hcs
     ·exact symMerge_low cb f ke N base g n cap w0 a m b d w HC K S0 ham hmb hb hn hN hL hR hX h1 h2 hIH (by omega)
end Go.Proofs.YtkkbngcgphlikaaGreatDoor
