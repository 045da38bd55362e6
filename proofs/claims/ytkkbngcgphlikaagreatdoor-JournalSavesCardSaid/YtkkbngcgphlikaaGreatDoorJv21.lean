/-
  Part of the proof of JournalSaves.
-/
import Derived.Test.YtkkbngcgphlikaaGreatDoorJv5
import Derived.Test.YtkkbngcgphlikaaGreatDoorJv0
set_option maxRecDepth 10000
set_option maxHeartbeats 2000000
set_option linter.unusedVariables false
set_option linter.unusedSimpArgs false
section
namespace Go.Proofs.YtkkbngcgphlikaaGreatDoor
open Go.RowKit Go.ChangeShapes Go.WideShapes Go.Deep
theorem swapRange_any (F : Value) (x y m lo hi base g n cap : Nat) (d0 : List Nat) (w0 w : World) (S0 : SD w0 base g n cap d0 w) (h1 : lo ≤ x) (h2 : x + m ≤ y) (h3 : y + m ≤ hi) (h4 : hi ≤ n) (hn : n ≤ 100000) :
 Calls Tryz.prog 226 #[.slice (some ⟨g, 0, none⟩) n cap, .int .i64 x, .int .i64 y, .int .i64 m, F] w fun e w' => e = .returned (.tuple #[]) ∧ ∃ d1, SD w0 base g n cap d1 w' ∧ SwR d0 d1 x y m ∧ Mv lo hi d0 d1 := by
 have hl0 := lh S0.len
 replace S0 := lh S0
 go_enter Tryz.func226, Tryz.ntmps226
 go_wp2_with fail
 go_loopw [10] (fun i wr => ∃ (k : Nat) (d : List Nat), k ≤ m ∧ i = .int .i64 k ∧ Hid (SD w0 base g n cap d wr) ∧ Hid (SwR d0 d x y k) ∧ Hid (Mv lo hi d0 d)) (fun i _ => m + 1 - (intOf i).toNat)
 case atStart => exact ⟨0, d0, Nat.zero_le _, rfl, S0, SwR.zero _ _ _, Mv.refl _ _ _⟩
 case round =>
  obtain ⟨k, d, hk, rfl, S1, R1, M1⟩ := hrel
  by_cases hlt : k < m
  ·have hltz : (k : Int) < (m : Int) := by omega
   obtain ⟨i, hi'⟩ : ∃ i, x + k = i := ⟨_, rfl⟩
   obtain ⟨j, hj'⟩ : ∃ j, y + k = j := ⟨_, rfl⟩
   have hin : i < n := by omega
   have hjn : j < n := by omega
   have hl1 := lh S1.out.len
   have R2 := lh (R1.out.step (by omega) (by rw [hl0.out]; omega))
   rw [hi', hj'] at R2
   have M2 := lh (M1.out.trans (Mv.swap (d := d) (i := i) (j := j) (by omega) (by omega) (by omega) (by omega) (by rw [hl1.out]; omega)))
   have e1 : (x : Int) + (k : Int) = (i : Int) := by omega
   have e2 : (y : Int) + (k : Int) = (j : Int) := by omega
   have e3 : IntKind.i64.wrap (i : Int) = (i : Int) := by rw [IntKind.wrap_i64]; omega
   have e4 : IntKind.i64.wrap (j : Int) = (j : Int) := by rw [IntKind.wrap_i64]; omega
   have b1 : (i : Int) < (n : Int) := by omega
   have b2 : (j : Int) < (n : Int) := by omega
   obtain ⟨a, ha⟩ : ∃ a, d.getD i 0 = a := ⟨_, rfl⟩
   obtain ⟨c, hc⟩ : ∃ c, d.getD j 0 = c := ⟨_, rfl⟩
   have hS := lh (S1.out.swap i j a c hin hjn ha hc)
   obtain ⟨c0, f0⟩ := S1.out.cell i hin
   obtain ⟨c1, f1⟩ := S1.out.cell j hjn
   rw [ha] at c0
   rw [hc] at c1
   obtain ⟨u9, c9⟩ := S1.out.other i j c hin hjn
   clear ha hc hi' hj' S1 R1 M1
   go_wp2_with fail
   go_big_region
   (try simp only [Exit.inBlock, Exit.then])
   go_wp2_with fail
   go_roundw
   case rel => exact ⟨k + 1, _, by omega, by go_num, hS, R2, M2⟩
   case measure => first | (simp [intOf]; done) | (simp [intOf]; omega)
  ·obtain rfl : k = m := by omega
   go_wp2_with fail
   go_end0
   exact ⟨rfl, d, S1.out, R1.out, M1.out⟩
theorem rotate_any (F : Value) (a m b base g n cap : Nat) (d0 : List Nat) (w0 w : World) (S0 : SD w0 base g n cap d0 w) (h1 : a < m) (h2 : m < b) (h4 : b ≤ n) (hn : n ≤ 100000) :
 Calls Tryz.prog 224 #[.slice (some ⟨g, 0, none⟩) n cap, .int .i64 a, .int .i64 m, .int .i64 b, F] w fun e w' => e = .returned (.tuple #[]) ∧ ∃ d1, SD w0 base g n cap d1 w' ∧ (∀ k, d1.getD k 0 = rotF d0 a m b k) ∧ Mv a b d0 d1 := by
 replace S0 := lh S0
 have e1 : (m : Int) - (a : Int) = ((m - a : Nat) : Int) := by omega
 have e2 : (b : Int) - (m : Int) = ((b - m : Nat) : Int) := by omega
 go_enter Tryz.func224, Tryz.ntmps224
 go_wp2_with fail
 try rw [e1, e2]
 clear e1 e2
 go_loopw [10, 11] (fun u v wr => ∃ (i j : Nat) (d : List Nat), 0 < i ∧ 0 < j ∧ i ≤ m - a ∧ j ≤ b - m ∧ u = .int .i64 i ∧ v = .int .i64 j ∧ Hid (SD w0 base g n cap d wr) ∧ Hid (∀ k, rotF d (m - i) m (m + j) k = rotF d0 a m b k) ∧ Hid (Mv a b d0 d)) (fun u v _ => (intOf u).toNat + (intOf v).toNat)
 case atStart => exact ⟨m - a, b - m, d0, by omega, by omega, Nat.le_refl _, Nat.le_refl _, rfl, rfl, S0, (show ∀ k, _ from by rw [show m - (m - a) = a by omega, show m + (b - m) = b by omega]; exact fun _ => rfl), Mv.refl _ _ _⟩
 case round =>
  obtain ⟨i, j, d, hi0, hj0, hia, hjb, rfl, rfl, S1, R1, M1⟩ := hrel
  have e3 : (m : Int) - (i : Int) = ((m - i : Nat) : Int) := by omega
  have e4 : (m : Int) + (j : Int) - (i : Int) = ((m + j - i : Nat) : Int) := by omega
  rcases Nat.lt_trichotomy i j with q | q | q
  ·have q1 : ((i : Int) != (j : Int)) = true := by rw [bne_iff_ne]; omega
   have q2 : ¬ (i : Int) = (j : Int) := by omega
   have q3 : ¬ ((i : Int) > (j : Int)) := by omega
   have q4 : (j : Int) - (i : Int) = ((j - i : Nat) : Int) := by omega
   have hS := lh (fun (w : World) (S1 : SD w0 base g n cap d w) F => swapRange_any F (m - i) (m + j - i) i a b base g n cap d w0 w S1 (by omega) (by omega) (by omega) h4 hn)
   replace q4 := lh q4
   replace e4 := lh e4
   replace e3 := lh e3
   go_wp2_with fail
   rw [e4.out, e3.out]
   refine (hS.out _ S1.out _).mono ?_
   rintro e w1 ⟨rfl, d1, S2, W2, M2⟩
   have R2 := lh (fun k => (show rotF d1 (m - i) m (m + (j - i)) k = rotF d0 a m b k from by
    have := rot_right (d := d) (e := d1) (lo := m - i) (m := m) (hi := m + j) (by rw [show m - (m - i) = i by omega]; exact W2) (by omega) (by omega) k
    rw [show m + j - (m - (m - i)) = m + (j - i) by omega] at this
    rw [this]; exact R1.out k))
   have M3 := lh (M1.out.trans M2)
   replace S2 := lh S2
   go_wp2_with fail
   rw [q4.out]
   go_roundw
   case rel => exact ⟨i, j - i, d1, by omega, by omega, hia, by omega, rfl, rfl, S2, R2, M3⟩
   case measure => first | (simp [intOf]; done) | (simp [intOf]; omega)
  ·subst q
   have q1 : ((i : Int) != (i : Int)) = false := by rw [bne_eq_false_iff_eq]
   have hS := lh (fun (w : World) (S1 : SD w0 base g n cap d w) F => swapRange_any F (m - i) m i a b base g n cap d w0 w S1 (by omega) (by omega) (by omega) h4 hn)
   replace e3 := lh e3
   go_wp2_with fail
   rw [e3.out]
   refine (hS.out _ S1.out _).mono ?_
   rintro e w1 ⟨rfl, d1, S2, W2, M2⟩
   have R2 := lh (fun k => (show d1.getD k 0 = rotF d0 a m b k from by
    rw [← R1.out k]
    exact rot_even (d := d) (e := d1) (lo := m - i) (m := m) (hi := m + i) (by rw [show m - (m - i) = i by omega]; exact W2) (by omega) (by omega) (by omega) k))
   have M3 := lh (M1.out.trans M2)
   go_wp2_with fail
   go_end0
   exact ⟨rfl, d1, S2, R2.out, M3.out⟩
  ·have q1 : ((i : Int) != (j : Int)) = true := by rw [bne_iff_ne]; omega
   have q2 : ¬ (i : Int) = (j : Int) := by omega
   have q3 : ((i : Int) > (j : Int)) := by omega
   have q4 : (i : Int) - (j : Int) = ((i - j : Nat) : Int) := by omega
   have hS := lh (fun (w : World) (S1 : SD w0 base g n cap d w) F => swapRange_any F (m - i) m j a b base g n cap d w0 w S1 (by omega) (by omega) (by omega) h4 hn)
   replace q4 := lh q4
   replace e4 := lh e4
   replace e3 := lh e3
   go_wp2_with fail
   rw [e3.out]
   refine (hS.out _ S1.out _).mono ?_
   rintro e w1 ⟨rfl, d1, S2, W2, M2⟩
   have R2 := lh (fun k => (show rotF d1 (m - (i - j)) m (m + j) k = rotF d0 a m b k from by
    have := rot_left (d := d) (e := d1) (lo := m - i) (m := m) (hi := m + j) (by rw [show m + j - m = j by omega]; exact W2) (by omega) (by omega) k
    rw [show m - i + (m + j - m) = m - (i - j) by omega] at this
    rw [this]; exact R1.out k))
   have M3 := lh (M1.out.trans M2)
   replace S2 := lh S2
   go_wp2_with fail
   rw [q4.out]
   go_roundw
   case rel => exact ⟨i - j, j, d1, by omega, by omega, by omega, hjb, rfl, rfl, S2, R2, M3⟩
   case measure => first | (simp [intOf]; done) | (simp [intOf]; omega)
end Go.Proofs.YtkkbngcgphlikaaGreatDoor
end
section
namespace Go.Proofs.YtkkbngcgphlikaaGreatDoor
open Go.RowKit Go.ChangeShapes Go.WideShapes Go.Deep
theorem symMerge_one (cb : Array Value) (f ke : Nat → Int) (N base g n cap : Nat) (w0 : World) (a m b : Nat) (d : List Nat) (w : World) (HC : Hid (CmpOk cb f N base w0)) (K : Hid (Key N f ke)) (S0 : SD w0 base g n cap d w) (ham : a < m) (hmb : m < b) (hb : b ≤ n) (hn : n ≤ 100000)
 (hN : Hid (∀ x ∈ d, x < N)) (hL : Hid (Srt ke d a m)) (hR : Hid (Srt ke d m b)) (hX : Hid (Lss nI d a m m b)) (h1 : m = a + 1) :
 Calls Tryz.prog 217 #[.slice (some ⟨g, 0, none⟩) n cap, .int .i64 a, .int .i64 m, .int .i64 b, .func (.func 193) #[] cb] w (fun e w' => e = .returned (.tuple #[]) ∧ ∃ d1, SD w0 base g n cap d1 w' ∧ Mv a b d d1 ∧ Srt ke d1 a b) := by
 subst h1
 have hl0 := lh S0.len
 have an : a < n := by omega
 obtain ⟨y, hy⟩ : ∃ y, d.getD a 0 = y := ⟨_, rfl⟩
 have yN : y < N := by rw [← hy]; exact hN.out _ (getD_mem_ (by rw [hl0.out]; omega))
 replace hy := lh hy
 have hdone := lh (fun (e : List Nat) (p : Nat) (h : Mvr d e a p b) hp hap k1 k2 => h.done (g := ke) hR.out hp hap k1 k2)
 obtain ⟨m, hm⟩ : ∃ m, a + 1 = m := ⟨_, rfl⟩
 have z1 : (m : Int) - (a : Int) = 1 := by omega
 have ew4 : IntKind.i64.wrap (a : Int) = (a : Int) := by rw [IntKind.wrap_i64]; omega
 have b2 : (a : Int) < (n : Int) := by omega
 rw [hm] at hmb hL hR hX ⊢
 go_enter Tryz.func217, Tryz.ntmps217
 go_wp2_with fail
 go_loopw [10, 11] (fun u v wr => ∃ (i j : Nat), m ≤ i ∧ i ≤ j ∧ j ≤ b ∧ u = .int .i64 i ∧ v = .int .i64 j ∧ Hid (SD w0 base g n cap d wr) ∧ Hid (∀ q, m ≤ q → q < i → ke (d.getD q 0) < ke (d.getD a 0)) ∧ Hid (∀ q, j ≤ q → q < b → ke (d.getD a 0) < ke (d.getD q 0))) (fun u v _ => (intOf v).toNat - (intOf u).toNat)
 case atStart => exact ⟨m, b, Nat.le_refl _, by omega, Nat.le_refl _, rfl, rfl, S0, fun q q1 q2 => by omega, fun q q1 q2 => by omega⟩
 case round =>
  obtain ⟨i, j, hmi, hij, hjb, rfl, rfl, hSd', hlo, hhi⟩ := hrel
  have hSd := hSd'.out
  by_cases hlt : i < j
  ·have hltz : (i : Int) < (j : Int) := by omega
   obtain ⟨h, hh⟩ : ∃ h, (i + j) / 2 = h := ⟨_, rfl⟩
   have hn1 : h < n := by omega
   obtain ⟨s, hs⟩ : ∃ s, i + j = s := ⟨_, rfl⟩
   have e1 : (i : Int) + (j : Int) = (s : Int) := by omega
   have e2 : (s : Int) / 2 = (h : Int) := by omega
   have e3 : s < 200001 := by omega
   have ew3 : IntKind.i64.wrap (h : Int) = (h : Int) := by rw [IntKind.wrap_i64]; omega
   have b1 : (h : Int) < (n : Int) := by omega
   obtain ⟨x, hx⟩ : ∃ x, d.getD h 0 = x := ⟨_, rfl⟩
   have xN : x < N := by rw [← hx]; exact hN.out _ (getD_mem_ (by rw [hl0.out]; omega))
   have hyx : y < x := by rw [← hx, ← hy.out]; exact lss_lt hX.out (by omega) (by omega) (by omega) (by omega)
   obtain ⟨fx, hfx⟩ : ∃ z, f x = z := ⟨_, rfl⟩
   obtain ⟨fy, hfy⟩ : ∃ z, f y = z := ⟨_, rfl⟩
   by_cases hf : fx < fy
   ·have hke := K.out.lt x y hyx xN (by rw [hfx, hfy]; exact hf)
    rw [← hx, ← hy.out] at hke
    have hlo2 := lh (half_lo (x := a) hR.out (by omega) hke)
    have g1 : fx - fy < 0 := by omega
    have g2 : decide (fx - fy < 0) = true := decide_eq_true g1
    replace hx := lh hx
    replace hfx := lh hfx
    replace hfy := lh hfy
    have hh' := lh hh
    have hs' := lh hs
    clear hke hh hs
    go_wp2_with fail
    refine wp_region_held_drew (S := (fun w' => SD w0 base g n cap d w')) (by kernel_rfl) ?_ (fun hHeld => ?_)
    ·(try dsimp only)
     (first | exact hSd.drew | exact hHeld.drew)
    refine takeL 0 (v := ?_) rfl (by kernel_rfl) (by kernel_rfl) (by kernel_rfl) (fun _ _ _ h => h) (by rfl) (by assumption) ?_ ?_
    rotate_left
    ·(intro w hSw; (try dsimp only at hSw); (have p0 := (hSw.cell h hn1).1; have p1 := (hSw.cell a an).1; rw [hx.out] at p0; rw [hy.out] at p1); go_simp <;> with_reducible rfl)
    try simp only [Act.put,sA,sB,sC]
    refine takeL 1 (v := ?_) rfl (by kernel_rfl) (by kernel_rfl) (by kernel_rfl) (fun _ _ _ h => h) (by rfl) (by assumption) ?_ ?_
    rotate_left
    ·(intro w hSw; (try dsimp only at hSw); (have p0 := (hSw.cell h hn1).1; have p1 := (hSw.cell a an).1; rw [hx.out] at p0; rw [hy.out] at p1); go_simp <;> with_reducible rfl)
    try simp only [Act.put,sA,sB,sC]
    refine takeL 2 (v := ?_) rfl (by kernel_rfl) (by kernel_rfl) (by kernel_rfl) (fun _ _ _ h => h) (by rfl) (by assumption) ?_ ?_
    rotate_left
    ·(intro w hSw; (try dsimp only at hSw); (have p0 := (hSw.cell h hn1).1; have p1 := (hSw.cell a an).1; rw [hx.out] at p0; rw [hy.out] at p1); go_simp <;> with_reducible rfl)
    try simp only [Act.put,sA,sB,sC]
    refine takeL 3 (v := ?_) rfl (by kernel_rfl) (by kernel_rfl) (by kernel_rfl) (fun _ _ _ h => h) (by rfl) (by assumption) ?_ ?_
    rotate_left
    ·(intro w hSw; (try dsimp only at hSw); (have p0 := (hSw.cell h hn1).1; have p1 := (hSw.cell a an).1; rw [hx.out] at p0; rw [hy.out] at p1); go_simp <;> with_reducible rfl)
    try simp only [Act.put,sA,sB,sC]
    refine takeL 4 (v := ?_) rfl (by kernel_rfl) (by kernel_rfl) (by kernel_rfl) (fun _ _ _ h => h) (by rfl) (by assumption) ?_ ?_
    rotate_left
    ·(intro w hSw; (try dsimp only at hSw); (have p0 := (hSw.cell h hn1).1; have p1 := (hSw.cell a an).1; rw [hx.out] at p0; rw [hy.out] at p1); go_simp <;> with_reducible rfl)
    try simp only [Act.put,sA,sB,sC]
    refine takeL 5 (v := ?_) rfl (by kernel_rfl) (by kernel_rfl) (by kernel_rfl) (fun _ _ _ h => h) (by rfl) (by assumption) ?_ ?_
    rotate_left
    ·(intro w hSw; (try dsimp only at hSw); (have p0 := (hSw.cell h hn1).1; have p1 := (hSw.cell a an).1; rw [hx.out] at p0; rw [hy.out] at p1); go_simp <;> with_reducible rfl)
    try simp only [Act.put,sA,sB,sC]
    refine takeL 6 (v := ?_) rfl (by kernel_rfl) (by kernel_rfl) (by kernel_rfl) (fun _ _ _ h => h) (by rfl) (by assumption) ?_ ?_
    rotate_left
    ·(intro w hSw; (try dsimp only at hSw); (have p0 := (hSw.cell h hn1).1; have p1 := (hSw.cell a an).1; rw [hx.out] at p0; rw [hy.out] at p1); go_simp <;> with_reducible rfl)
    try simp only [Act.put,sA,sB,sC]
    refine takeL 7 (v := ?_) rfl (by kernel_rfl) (by kernel_rfl) (by kernel_rfl) (fun _ _ _ h => h) (by rfl) (by assumption) ?_ ?_
    rotate_left
    ·(intro w hSw; (try dsimp only at hSw); (have p0 := (hSw.cell h hn1).1; have p1 := (hSw.cell a an).1; rw [hx.out] at p0; rw [hy.out] at p1); go_simp <;> with_reducible rfl)
    try simp only [Act.put,sA,sB,sC]
    refine takeL 8 (v := ?_) rfl (by kernel_rfl) (by kernel_rfl) (by kernel_rfl) (fun _ _ _ h => h) (by rfl) (by assumption) ?_ ?_
    rotate_left
    ·(intro w hSw; (try dsimp only at hSw); (have p0 := (hSw.cell h hn1).1; have p1 := (hSw.cell a an).1; rw [hx.out] at p0; rw [hy.out] at p1); go_simp <;> with_reducible rfl)
    try simp only [Act.put,sA,sB,sC]
    refine oneL 9 rfl (by kernel_rfl) (fun K hK => ?_)
    go_simp
    (have hq := HC.out _ x y hHeld.kept xN yN; rw [hfx.out, hfy.out] at hq; go_at_call 193; (with_reducible refine hq.mono ?_); rintro e w8 ⟨rfl, rfl⟩)
    refine hK.out _ _ ?_ (fun hHeld2 => ?_)
    ·(try dsimp only)
     (first | exact hSd.drew | exact hHeld.drew)
    clear hK K hHeld
    have hHeld := hHeld2
    clear hHeld2
    try simp only [Act.put,sA,sB,sC]
    refine takeL 10 (v := ?_) rfl (by kernel_rfl) (by kernel_rfl) (by kernel_rfl) (fun _ _ _ h => h) (by rfl) (by assumption) ?_ ?_
    rotate_left
    ·(intro w hSw; (try dsimp only at hSw); (have p0 := (hSw.cell h hn1).1; have p1 := (hSw.cell a an).1; rw [hx.out] at p0; rw [hy.out] at p1); go_simp <;> with_reducible rfl)
    try simp only [Act.put,sA,sB,sC]
    refine wpAnyH_done (by kernel_rfl) ?_ _
    (try simp only [Exit.inBlock, Exit.then])
    replace hHeld := lh hHeld
    clear hSd
    go_wp2_with fail
    go_roundw
    case rel => exact ⟨h + 1, j, by omega, by have := hh'.out; omega, hjb, by go_num, rfl, hHeld, hlo2, hhi⟩
    case measure => have := hh'.out; first | (simp [intOf]; done) | (simp [intOf]; omega)
   ·have hke := K.out.ge x y hyx xN (by rw [hfx, hfy]; exact hf)
    rw [← hx, ← hy.out] at hke
    have hhi2 := lh (half_hi (x := a) (h := h) hR.out (by omega) hke)
    have g1 : ¬ fx - fy < 0 := by omega
    have g2 : decide (fx - fy < 0) = false := decide_eq_false g1
    replace hx := lh hx
    replace hfx := lh hfx
    replace hfy := lh hfy
    have hh' := lh hh
    have hs' := lh hs
    clear hke hh hs
    go_wp2_with fail
    refine wp_region_held_drew (S := (fun w' => SD w0 base g n cap d w')) (by kernel_rfl) ?_ (fun hHeld => ?_)
    ·(try dsimp only)
     (first | exact hSd.drew | exact hHeld.drew)
    refine takeL 0 (v := ?_) rfl (by kernel_rfl) (by kernel_rfl) (by kernel_rfl) (fun _ _ _ h => h) (by rfl) (by assumption) ?_ ?_
    rotate_left
    ·(intro w hSw; (try dsimp only at hSw); (have p0 := (hSw.cell h hn1).1; have p1 := (hSw.cell a an).1; rw [hx.out] at p0; rw [hy.out] at p1); go_simp <;> with_reducible rfl)
    try simp only [Act.put,sA,sB,sC]
    refine takeL 1 (v := ?_) rfl (by kernel_rfl) (by kernel_rfl) (by kernel_rfl) (fun _ _ _ h => h) (by rfl) (by assumption) ?_ ?_
    rotate_left
    ·(intro w hSw; (try dsimp only at hSw); (have p0 := (hSw.cell h hn1).1; have p1 := (hSw.cell a an).1; rw [hx.out] at p0; rw [hy.out] at p1); go_simp <;> with_reducible rfl)
    try simp only [Act.put,sA,sB,sC]
    refine takeL 2 (v := ?_) rfl (by kernel_rfl) (by kernel_rfl) (by kernel_rfl) (fun _ _ _ h => h) (by rfl) (by assumption) ?_ ?_
    rotate_left
    ·(intro w hSw; (try dsimp only at hSw); (have p0 := (hSw.cell h hn1).1; have p1 := (hSw.cell a an).1; rw [hx.out] at p0; rw [hy.out] at p1); go_simp <;> with_reducible rfl)
    try simp only [Act.put,sA,sB,sC]
    refine takeL 3 (v := ?_) rfl (by kernel_rfl) (by kernel_rfl) (by kernel_rfl) (fun _ _ _ h => h) (by rfl) (by assumption) ?_ ?_
    rotate_left
    ·(intro w hSw; (try dsimp only at hSw); (have p0 := (hSw.cell h hn1).1; have p1 := (hSw.cell a an).1; rw [hx.out] at p0; rw [hy.out] at p1); go_simp <;> with_reducible rfl)
    try simp only [Act.put,sA,sB,sC]
    refine takeL 4 (v := ?_) rfl (by kernel_rfl) (by kernel_rfl) (by kernel_rfl) (fun _ _ _ h => h) (by rfl) (by assumption) ?_ ?_
    rotate_left
    ·(intro w hSw; (try dsimp only at hSw); (have p0 := (hSw.cell h hn1).1; have p1 := (hSw.cell a an).1; rw [hx.out] at p0; rw [hy.out] at p1); go_simp <;> with_reducible rfl)
    try simp only [Act.put,sA,sB,sC]
    refine takeL 5 (v := ?_) rfl (by kernel_rfl) (by kernel_rfl) (by kernel_rfl) (fun _ _ _ h => h) (by rfl) (by assumption) ?_ ?_
    rotate_left
    ·(intro w hSw; (try dsimp only at hSw); (have p0 := (hSw.cell h hn1).1; have p1 := (hSw.cell a an).1; rw [hx.out] at p0; rw [hy.out] at p1); go_simp <;> with_reducible rfl)
    try simp only [Act.put,sA,sB,sC]
    refine takeL 6 (v := ?_) rfl (by kernel_rfl) (by kernel_rfl) (by kernel_rfl) (fun _ _ _ h => h) (by rfl) (by assumption) ?_ ?_
    rotate_left
    ·(intro w hSw; (try dsimp only at hSw); (have p0 := (hSw.cell h hn1).1; have p1 := (hSw.cell a an).1; rw [hx.out] at p0; rw [hy.out] at p1); go_simp <;> with_reducible rfl)
    try simp only [Act.put,sA,sB,sC]
    refine takeL 7 (v := ?_) rfl (by kernel_rfl) (by kernel_rfl) (by kernel_rfl) (fun _ _ _ h => h) (by rfl) (by assumption) ?_ ?_
    rotate_left
    ·(intro w hSw; (try dsimp only at hSw); (have p0 := (hSw.cell h hn1).1; have p1 := (hSw.cell a an).1; rw [hx.out] at p0; rw [hy.out] at p1); go_simp <;> with_reducible rfl)
    try simp only [Act.put,sA,sB,sC]
    refine takeL 8 (v := ?_) rfl (by kernel_rfl) (by kernel_rfl) (by kernel_rfl) (fun _ _ _ h => h) (by rfl) (by assumption) ?_ ?_
    rotate_left
    ·(intro w hSw; (try dsimp only at hSw); (have p0 := (hSw.cell h hn1).1; have p1 := (hSw.cell a an).1; rw [hx.out] at p0; rw [hy.out] at p1); go_simp <;> with_reducible rfl)
    try simp only [Act.put,sA,sB,sC]
    refine oneL 9 rfl (by kernel_rfl) (fun K hK => ?_)
    go_simp
    (have hq := HC.out _ x y hHeld.kept xN yN; rw [hfx.out, hfy.out] at hq; go_at_call 193; (with_reducible refine hq.mono ?_); rintro e w8 ⟨rfl, rfl⟩)
    refine hK.out _ _ ?_ (fun hHeld2 => ?_)
    ·(try dsimp only)
     (first | exact hSd.drew | exact hHeld.drew)
    clear hK K hHeld
    have hHeld := hHeld2
    clear hHeld2
    try simp only [Act.put,sA,sB,sC]
    refine takeL 10 (v := ?_) rfl (by kernel_rfl) (by kernel_rfl) (by kernel_rfl) (fun _ _ _ h => h) (by rfl) (by assumption) ?_ ?_
    rotate_left
    ·(intro w hSw; (try dsimp only at hSw); (have p0 := (hSw.cell h hn1).1; have p1 := (hSw.cell a an).1; rw [hx.out] at p0; rw [hy.out] at p1); go_simp <;> with_reducible rfl)
    try simp only [Act.put,sA,sB,sC]
    refine wpAnyH_done (by kernel_rfl) ?_ _
    (try simp only [Exit.inBlock, Exit.then])
    replace hHeld := lh hHeld
    clear hSd
    go_wp2_with fail
    go_roundw
    case rel => exact ⟨i, h, hmi, by have := hh'.out; omega, by have := hh'.out; omega, rfl, rfl, hHeld, hlo, hhi2⟩
    case measure => have := hh'.out; first | (simp [intOf]; done) | (simp [intOf]; omega)
  ·obtain rfl : i = j := by omega
   obtain ⟨p, hp⟩ : ∃ p, i = p + 1 := ⟨i - 1, by omega⟩
   have e1 : (i : Int) - 1 = (p : Int) := by omega
   have hd2 := lh (fun (e : List Nat) (h : Mvr d e a p b) => hdone.out e p h (by omega) (by omega) (fun q q1 q2 => hlo.out q (by omega) (by omega)) (fun q q1 q2 => hhi.out q (by omega) q2))
   replace hp := lh hp
   clear hSd hlo hhi
   go_wp2_with fail
   go_loopw [13] (fun u wr2 => ∃ (k : Nat) (e : List Nat), a ≤ k ∧ k ≤ p ∧ u = .int .i64 k ∧ Hid (SD w0 base g n cap e wr2) ∧ Hid (Mvr d e a k b)) (fun u _ => p + 1 - (intOf u).toNat)
   case atStart => exact ⟨a, d, Nat.le_refl _, by have := hp.out; omega, rfl, hSd', Mvr.start d a b⟩
   case round =>
    obtain ⟨k, e, hak, hkp, rfl, hSe, hM⟩ := hrel
    by_cases hlt2 : k < p
    ·have hltz : (k : Int) < (p : Int) := by omega
     have hpb : p + 1 ≤ b := by have := hp.out; omega
     have hk0 : k < n := by omega
     have hk1 : k + 1 < n := by omega
     have hM2 := lh (hM.out.step hak (by omega) (by rw [hl0.out]; omega))
     obtain ⟨x, hx⟩ : ∃ x, e.getD k 0 = x := ⟨_, rfl⟩
     obtain ⟨z, hz⟩ : ∃ z, e.getD (k + 1) 0 = z := ⟨_, rfl⟩
     have hSx := lh (hSe.out.swap k (k + 1) x z hk0 hk1 hx hz)
     obtain ⟨c0, f0⟩ := hSe.out.cell k hk0
     obtain ⟨c1, f1⟩ := hSe.out.cell (k + 1) hk1
     rw [hx] at c0
     rw [hz] at c1
     obtain ⟨u9, c9⟩ := hSe.out.other k (k + 1) z hk0 hk1
     have f9 := (hSe.out.set k z hk0).cell (k + 1) hk1 |>.2
     have ew1 : IntKind.i64.wrap ((k : Int) + 1) = (k : Int) + 1 := by rw [IntKind.wrap_i64]; omega
     have ew2 : IntKind.i64.wrap (k : Int) = (k : Int) := by rw [IntKind.wrap_i64]; omega
     have q1 : (k : Int) + 1 < (n : Int) := by omega
     have q2 : (k : Int) < (n : Int) := by omega
     have q3 : (0 : Int) ≤ (k : Int) + 1 := by omega
     have q4 : ((k : Int) + 1).toNat = k + 1 := by omega
     clear hx hz hSe hM
     go_wp2_with fail
     go_big_region
     (try simp only [Exit.inBlock, Exit.then])
     go_wp2_with fail
     go_roundw
     case rel => exact ⟨k + 1, _, by omega, by omega, by go_num, (by first | exact hSx.out | exact hSx.out.drew | exact hSx.out.drew.drew | exact hSx.out.drew.drew.drew), hM2⟩
     case measure => first | (simp [intOf]; done) | (simp [intOf]; omega)
    ·obtain rfl : k = p := by omega
     go_wp2_with fail
     (first | go_end0 | go_ret | go_returns | (trace_state; fail))
     exact ⟨rfl, e, hSe.out, hM.out.mv, hd2.out e hM.out⟩
theorem symMerge_last (cb : Array Value) (f ke : Nat → Int) (N base g n cap : Nat) (w0 : World) (a m b : Nat) (d : List Nat) (w : World) (HC : Hid (CmpOk cb f N base w0)) (K : Hid (Key N f ke)) (S0 : SD w0 base g n cap d w) (ham : a < m) (hmb : m < b) (hb : b ≤ n) (hn : n ≤ 100000)
 (hN : Hid (∀ x ∈ d, x < N)) (hL : Hid (Srt ke d a m)) (hR : Hid (Srt ke d m b)) (hX : Hid (Lss nI d a m m b)) (h1 : ¬ m = a + 1) (h2 : b = m + 1) :
 Calls Tryz.prog 217 #[.slice (some ⟨g, 0, none⟩) n cap, .int .i64 a, .int .i64 m, .int .i64 b, .func (.func 193) #[] cb] w (fun e w' => e = .returned (.tuple #[]) ∧ ∃ d1, SD w0 base g n cap d1 w' ∧ Mv a b d d1 ∧ Srt ke d1 a b) := by
 have hl0 := lh S0.len
 have mn : m < n := by omega
 obtain ⟨x, hx⟩ : ∃ x, d.getD m 0 = x := ⟨_, rfl⟩
 have xN : x < N := by rw [← hx]; exact hN.out _ (getD_mem_ (by rw [hl0.out]; omega))
 replace hx := lh hx
 have hdone := lh (fun (e : List Nat) (p : Nat) (h : Ins d e a m p) k1 k2 k3 k4 => h.done (g := ke) hL.out k1 k2 k3 k4)
 have hstep := lh (fun (e : List Nat) (p : Nat) (h : Ins d e a m (p + 1)) k1 k2 => h.step k1 k2 (by rw [hl0.out]; omega))
 have z0 : ¬ (m : Int) - (a : Int) = 1 := by omega
 have z1 : (b : Int) - (m : Int) = 1 := by omega
 have z2 : (((m : Int) - (a : Int)) == 1) = false := by rw [beq_eq_false_iff_ne]; omega
 have ew4 : IntKind.i64.wrap (m : Int) = (m : Int) := by rw [IntKind.wrap_i64]; omega
 have b2 : (m : Int) < (n : Int) := by omega
 replace h2 := lh h2
 clear h1
 go_enter Tryz.func217, Tryz.ntmps217
 go_wp2_with fail
 go_loopw [14, 15] (fun u v wr => ∃ (i j : Nat), a ≤ i ∧ i ≤ j ∧ j ≤ m ∧ u = .int .i64 i ∧ v = .int .i64 j ∧ Hid (SD w0 base g n cap d wr) ∧ Hid (∀ q, a ≤ q → q < i → ke (d.getD q 0) < ke (d.getD m 0)) ∧ Hid (∀ q, j ≤ q → q < m → ke (d.getD m 0) < ke (d.getD q 0))) (fun u v _ => (intOf v).toNat - (intOf u).toNat)
 case atStart => exact ⟨a, m, Nat.le_refl _, by omega, Nat.le_refl _, rfl, rfl, S0, fun q q1 q2 => by omega, fun q q1 q2 => by omega⟩
 case round =>
  obtain ⟨i, j, hmi, hij, hjb, rfl, rfl, hSd', hlo, hhi⟩ := hrel
  have hSd := hSd'.out
  by_cases hlt : i < j
  ·have hltz : (i : Int) < (j : Int) := by omega
   obtain ⟨h, hh⟩ : ∃ h, (i + j) / 2 = h := ⟨_, rfl⟩
   have hn1 : h < n := by omega
   obtain ⟨s, hs⟩ : ∃ s, i + j = s := ⟨_, rfl⟩
   have e1 : (i : Int) + (j : Int) = (s : Int) := by omega
   have e2 : (s : Int) / 2 = (h : Int) := by omega
   have e3 : s < 200001 := by omega
   have ew3 : IntKind.i64.wrap (h : Int) = (h : Int) := by rw [IntKind.wrap_i64]; omega
   have b1 : (h : Int) < (n : Int) := by omega
   obtain ⟨y, hy⟩ : ∃ y, d.getD h 0 = y := ⟨_, rfl⟩
   have yN : y < N := by rw [← hy]; exact hN.out _ (getD_mem_ (by rw [hl0.out]; omega))
   have hyx : y < x := by rw [← hx.out, ← hy]; exact lss_lt hX.out (by omega) (by omega) (by omega) (by omega)
   obtain ⟨fx, hfx⟩ : ∃ z, f x = z := ⟨_, rfl⟩
   obtain ⟨fy, hfy⟩ : ∃ z, f y = z := ⟨_, rfl⟩
   by_cases hf : fx < fy
   ·have hke := K.out.lt x y hyx xN (by rw [hfx, hfy]; exact hf)
    rw [← hx.out, ← hy] at hke
    have hhi2 := lh (half_hi (x := m) (h := h) hL.out (by omega) hke)
    have g1 : fx - fy < 0 := by omega
    have g2 : decide (fx - fy < 0) = true := decide_eq_true g1
    replace hy := lh hy
    replace hfx := lh hfx
    replace hfy := lh hfy
    have hh' := lh hh
    clear hke hh hs
    go_wp2_with fail
    refine wp_region_held_drew (S := (fun w' => SD w0 base g n cap d w')) (by kernel_rfl) ?_ (fun hHeld => ?_)
    ·(try dsimp only)
     (first | exact hSd.drew | exact hHeld.drew)
    refine takeL 0 (v := ?_) rfl (by kernel_rfl) (by kernel_rfl) (by kernel_rfl) (fun _ _ _ h => h) (by rfl) (by assumption) ?_ ?_
    rotate_left
    ·(intro w hSw; (try dsimp only at hSw); (have p0 := (hSw.cell m mn).1; have p1 := (hSw.cell h hn1).1; rw [hx.out] at p0; rw [hy.out] at p1); go_simp <;> with_reducible rfl)
    try simp only [Act.put,sA,sB,sC]
    refine takeL 1 (v := ?_) rfl (by kernel_rfl) (by kernel_rfl) (by kernel_rfl) (fun _ _ _ h => h) (by rfl) (by assumption) ?_ ?_
    rotate_left
    ·(intro w hSw; (try dsimp only at hSw); (have p0 := (hSw.cell m mn).1; have p1 := (hSw.cell h hn1).1; rw [hx.out] at p0; rw [hy.out] at p1); go_simp <;> with_reducible rfl)
    try simp only [Act.put,sA,sB,sC]
    refine takeL 2 (v := ?_) rfl (by kernel_rfl) (by kernel_rfl) (by kernel_rfl) (fun _ _ _ h => h) (by rfl) (by assumption) ?_ ?_
    rotate_left
    ·(intro w hSw; (try dsimp only at hSw); (have p0 := (hSw.cell m mn).1; have p1 := (hSw.cell h hn1).1; rw [hx.out] at p0; rw [hy.out] at p1); go_simp <;> with_reducible rfl)
    try simp only [Act.put,sA,sB,sC]
    refine takeL 3 (v := ?_) rfl (by kernel_rfl) (by kernel_rfl) (by kernel_rfl) (fun _ _ _ h => h) (by rfl) (by assumption) ?_ ?_
    rotate_left
    ·(intro w hSw; (try dsimp only at hSw); (have p0 := (hSw.cell m mn).1; have p1 := (hSw.cell h hn1).1; rw [hx.out] at p0; rw [hy.out] at p1); go_simp <;> with_reducible rfl)
    try simp only [Act.put,sA,sB,sC]
    refine takeL 4 (v := ?_) rfl (by kernel_rfl) (by kernel_rfl) (by kernel_rfl) (fun _ _ _ h => h) (by rfl) (by assumption) ?_ ?_
    rotate_left
    ·(intro w hSw; (try dsimp only at hSw); (have p0 := (hSw.cell m mn).1; have p1 := (hSw.cell h hn1).1; rw [hx.out] at p0; rw [hy.out] at p1); go_simp <;> with_reducible rfl)
    try simp only [Act.put,sA,sB,sC]
    refine takeL 5 (v := ?_) rfl (by kernel_rfl) (by kernel_rfl) (by kernel_rfl) (fun _ _ _ h => h) (by rfl) (by assumption) ?_ ?_
    rotate_left
    ·(intro w hSw; (try dsimp only at hSw); (have p0 := (hSw.cell m mn).1; have p1 := (hSw.cell h hn1).1; rw [hx.out] at p0; rw [hy.out] at p1); go_simp <;> with_reducible rfl)
    try simp only [Act.put,sA,sB,sC]
    refine takeL 6 (v := ?_) rfl (by kernel_rfl) (by kernel_rfl) (by kernel_rfl) (fun _ _ _ h => h) (by rfl) (by assumption) ?_ ?_
    rotate_left
    ·(intro w hSw; (try dsimp only at hSw); (have p0 := (hSw.cell m mn).1; have p1 := (hSw.cell h hn1).1; rw [hx.out] at p0; rw [hy.out] at p1); go_simp <;> with_reducible rfl)
    try simp only [Act.put,sA,sB,sC]
    refine takeL 7 (v := ?_) rfl (by kernel_rfl) (by kernel_rfl) (by kernel_rfl) (fun _ _ _ h => h) (by rfl) (by assumption) ?_ ?_
    rotate_left
    ·(intro w hSw; (try dsimp only at hSw); (have p0 := (hSw.cell m mn).1; have p1 := (hSw.cell h hn1).1; rw [hx.out] at p0; rw [hy.out] at p1); go_simp <;> with_reducible rfl)
    try simp only [Act.put,sA,sB,sC]
    refine takeL 8 (v := ?_) rfl (by kernel_rfl) (by kernel_rfl) (by kernel_rfl) (fun _ _ _ h => h) (by rfl) (by assumption) ?_ ?_
    rotate_left
    ·(intro w hSw; (try dsimp only at hSw); (have p0 := (hSw.cell m mn).1; have p1 := (hSw.cell h hn1).1; rw [hx.out] at p0; rw [hy.out] at p1); go_simp <;> with_reducible rfl)
    try simp only [Act.put,sA,sB,sC]
    refine oneL 9 rfl (by kernel_rfl) (fun K hK => ?_)
    go_simp
    (have hq := HC.out _ x y hHeld.kept xN yN; rw [hfx.out, hfy.out] at hq; go_at_call 193; (with_reducible refine hq.mono ?_); rintro e w8 ⟨rfl, rfl⟩)
    refine hK.out _ _ ?_ (fun hHeld2 => ?_)
    ·(try dsimp only)
     (first | exact hSd.drew | exact hHeld.drew)
    clear hK K hHeld
    have hHeld := hHeld2
    clear hHeld2
    try simp only [Act.put,sA,sB,sC]
    refine takeL 10 (v := ?_) rfl (by kernel_rfl) (by kernel_rfl) (by kernel_rfl) (fun _ _ _ h => h) (by rfl) (by assumption) ?_ ?_
    rotate_left
    ·(intro w hSw; (try dsimp only at hSw); (have p0 := (hSw.cell m mn).1; have p1 := (hSw.cell h hn1).1; rw [hx.out] at p0; rw [hy.out] at p1); go_simp <;> with_reducible rfl)
    try simp only [Act.put,sA,sB,sC]
    refine takeL 11 (v := ?_) rfl (by kernel_rfl) (by kernel_rfl) (by kernel_rfl) (fun _ _ _ h => h) (by rfl) (by assumption) ?_ ?_
    rotate_left
    ·(intro w hSw; (try dsimp only at hSw); (have p0 := (hSw.cell m mn).1; have p1 := (hSw.cell h hn1).1; rw [hx.out] at p0; rw [hy.out] at p1); go_simp <;> with_reducible rfl)
    try simp only [Act.put,sA,sB,sC]
    refine wpAnyH_done (by kernel_rfl) ?_ _
    (try simp only [Exit.inBlock, Exit.then])
    replace hHeld := lh hHeld
    clear hSd
    go_wp2_with fail
    go_roundw
    case rel => exact ⟨i, h, hmi, by have := hh'.out; omega, by have := hh'.out; omega, rfl, rfl, hHeld, hlo, hhi2⟩
    case measure => have := hh'.out; first | (simp [intOf]; done) | (simp [intOf]; omega)
   ·have hke := K.out.ge x y hyx xN (by rw [hfx, hfy]; exact hf)
    rw [← hx.out, ← hy] at hke
    have hlo2 := lh (half_lo (x := m) (h := h) hL.out (by omega) hke)
    have g1 : ¬ fx - fy < 0 := by omega
    have g2 : decide (fx - fy < 0) = false := decide_eq_false g1
    replace hy := lh hy
    replace hfx := lh hfx
    replace hfy := lh hfy
    have hh' := lh hh
    clear hke hh hs
    go_wp2_with fail
    refine wp_region_held_drew (S := (fun w' => SD w0 base g n cap d w')) (by kernel_rfl) ?_ (fun hHeld => ?_)
    ·(try dsimp only)
     (first | exact hSd.drew | exact hHeld.drew)
    refine takeL 0 (v := ?_) rfl (by kernel_rfl) (by kernel_rfl) (by kernel_rfl) (fun _ _ _ h => h) (by rfl) (by assumption) ?_ ?_
    rotate_left
    ·(intro w hSw; (try dsimp only at hSw); (have p0 := (hSw.cell m mn).1; have p1 := (hSw.cell h hn1).1; rw [hx.out] at p0; rw [hy.out] at p1); go_simp <;> with_reducible rfl)
    try simp only [Act.put,sA,sB,sC]
    refine takeL 1 (v := ?_) rfl (by kernel_rfl) (by kernel_rfl) (by kernel_rfl) (fun _ _ _ h => h) (by rfl) (by assumption) ?_ ?_
    rotate_left
    ·(intro w hSw; (try dsimp only at hSw); (have p0 := (hSw.cell m mn).1; have p1 := (hSw.cell h hn1).1; rw [hx.out] at p0; rw [hy.out] at p1); go_simp <;> with_reducible rfl)
    try simp only [Act.put,sA,sB,sC]
    refine takeL 2 (v := ?_) rfl (by kernel_rfl) (by kernel_rfl) (by kernel_rfl) (fun _ _ _ h => h) (by rfl) (by assumption) ?_ ?_
    rotate_left
    ·(intro w hSw; (try dsimp only at hSw); (have p0 := (hSw.cell m mn).1; have p1 := (hSw.cell h hn1).1; rw [hx.out] at p0; rw [hy.out] at p1); go_simp <;> with_reducible rfl)
    try simp only [Act.put,sA,sB,sC]
    refine takeL 3 (v := ?_) rfl (by kernel_rfl) (by kernel_rfl) (by kernel_rfl) (fun _ _ _ h => h) (by rfl) (by assumption) ?_ ?_
    rotate_left
    ·(intro w hSw; (try dsimp only at hSw); (have p0 := (hSw.cell m mn).1; have p1 := (hSw.cell h hn1).1; rw [hx.out] at p0; rw [hy.out] at p1); go_simp <;> with_reducible rfl)
    try simp only [Act.put,sA,sB,sC]
    refine takeL 4 (v := ?_) rfl (by kernel_rfl) (by kernel_rfl) (by kernel_rfl) (fun _ _ _ h => h) (by rfl) (by assumption) ?_ ?_
    rotate_left
    ·(intro w hSw; (try dsimp only at hSw); (have p0 := (hSw.cell m mn).1; have p1 := (hSw.cell h hn1).1; rw [hx.out] at p0; rw [hy.out] at p1); go_simp <;> with_reducible rfl)
    try simp only [Act.put,sA,sB,sC]
    refine takeL 5 (v := ?_) rfl (by kernel_rfl) (by kernel_rfl) (by kernel_rfl) (fun _ _ _ h => h) (by rfl) (by assumption) ?_ ?_
    rotate_left
    ·(intro w hSw; (try dsimp only at hSw); (have p0 := (hSw.cell m mn).1; have p1 := (hSw.cell h hn1).1; rw [hx.out] at p0; rw [hy.out] at p1); go_simp <;> with_reducible rfl)
    try simp only [Act.put,sA,sB,sC]
    refine takeL 6 (v := ?_) rfl (by kernel_rfl) (by kernel_rfl) (by kernel_rfl) (fun _ _ _ h => h) (by rfl) (by assumption) ?_ ?_
    rotate_left
    ·(intro w hSw; (try dsimp only at hSw); (have p0 := (hSw.cell m mn).1; have p1 := (hSw.cell h hn1).1; rw [hx.out] at p0; rw [hy.out] at p1); go_simp <;> with_reducible rfl)
    try simp only [Act.put,sA,sB,sC]
    refine takeL 7 (v := ?_) rfl (by kernel_rfl) (by kernel_rfl) (by kernel_rfl) (fun _ _ _ h => h) (by rfl) (by assumption) ?_ ?_
    rotate_left
    ·(intro w hSw; (try dsimp only at hSw); (have p0 := (hSw.cell m mn).1; have p1 := (hSw.cell h hn1).1; rw [hx.out] at p0; rw [hy.out] at p1); go_simp <;> with_reducible rfl)
    try simp only [Act.put,sA,sB,sC]
    refine takeL 8 (v := ?_) rfl (by kernel_rfl) (by kernel_rfl) (by kernel_rfl) (fun _ _ _ h => h) (by rfl) (by assumption) ?_ ?_
    rotate_left
    ·(intro w hSw; (try dsimp only at hSw); (have p0 := (hSw.cell m mn).1; have p1 := (hSw.cell h hn1).1; rw [hx.out] at p0; rw [hy.out] at p1); go_simp <;> with_reducible rfl)
    try simp only [Act.put,sA,sB,sC]
    refine oneL 9 rfl (by kernel_rfl) (fun K hK => ?_)
    go_simp
    (have hq := HC.out _ x y hHeld.kept xN yN; rw [hfx.out, hfy.out] at hq; go_at_call 193; (with_reducible refine hq.mono ?_); rintro e w8 ⟨rfl, rfl⟩)
    refine hK.out _ _ ?_ (fun hHeld2 => ?_)
    ·(try dsimp only)
     (first | exact hSd.drew | exact hHeld.drew)
    clear hK K hHeld
    have hHeld := hHeld2
    clear hHeld2
    try simp only [Act.put,sA,sB,sC]
    refine takeL 10 (v := ?_) rfl (by kernel_rfl) (by kernel_rfl) (by kernel_rfl) (fun _ _ _ h => h) (by rfl) (by assumption) ?_ ?_
    rotate_left
    ·(intro w hSw; (try dsimp only at hSw); (have p0 := (hSw.cell m mn).1; have p1 := (hSw.cell h hn1).1; rw [hx.out] at p0; rw [hy.out] at p1); go_simp <;> with_reducible rfl)
    try simp only [Act.put,sA,sB,sC]
    refine takeL 11 (v := ?_) rfl (by kernel_rfl) (by kernel_rfl) (by kernel_rfl) (fun _ _ _ h => h) (by rfl) (by assumption) ?_ ?_
    rotate_left
    ·(intro w hSw; (try dsimp only at hSw); (have p0 := (hSw.cell m mn).1; have p1 := (hSw.cell h hn1).1; rw [hx.out] at p0; rw [hy.out] at p1); go_simp <;> with_reducible rfl)
    try simp only [Act.put,sA,sB,sC]
    refine wpAnyH_done (by kernel_rfl) ?_ _
    (try simp only [Exit.inBlock, Exit.then])
    replace hHeld := lh hHeld
    clear hSd
    go_wp2_with fail
    go_roundw
    case rel => exact ⟨h + 1, j, by omega, by have := hh'.out; omega, hjb, by go_num, rfl, hHeld, hlo2, hhi⟩
    case measure => have := hh'.out; first | (simp [intOf]; done) | (simp [intOf]; omega)
  ·obtain rfl : i = j := by omega
   have hd2 := lh (fun (e : List Nat) (h : Ins d e a m i) => hdone.out e i h hmi hjb (by
    by_cases q : i = a
    ·exact .inl q
    ·exact .inr (hlo.out (i - 1) (by omega) (by omega))) (fun q q1 q2 => hhi.out q q1 q2))
   clear hSd hlo hhi
   go_wp2_with fail
   go_loopw [17] (fun u wr2 => ∃ (k : Nat) (e : List Nat), i ≤ k ∧ k ≤ m ∧ u = .int .i64 k ∧ Hid (SD w0 base g n cap e wr2) ∧ Hid (Ins d e a m k)) (fun u _ => (intOf u).toNat)
   case atStart => exact ⟨m, d, hjb, Nat.le_refl _, rfl, hSd', Ins.start d a m⟩
   case round =>
    obtain ⟨k, e, hak, hkp, rfl, hSe, hM⟩ := hrel
    by_cases hlt2 : i < k
    ·obtain ⟨kp, rfl⟩ : ∃ q, k = q + 1 := ⟨k - 1, by omega⟩
     have hltz : (kp : Int) + 1 > (i : Int) := by omega
     have hltd : decide ((kp : Int) + 1 > (i : Int)) = true := decide_eq_true (by omega)
     have hk0 : kp < n := by omega
     have hk1 : kp + 1 < n := by omega
     have hM2 := lh (hstep.out e kp hM.out (by omega) hkp)
     obtain ⟨z, hz⟩ : ∃ z, e.getD kp 0 = z := ⟨_, rfl⟩
     obtain ⟨y, hy⟩ : ∃ y, e.getD (kp + 1) 0 = y := ⟨_, rfl⟩
     have hSx := lh (hSe.out.swap (kp + 1) kp y z hk1 hk0 hy hz)
     obtain ⟨c0, f0⟩ := hSe.out.cell kp hk0
     obtain ⟨c1, f1⟩ := hSe.out.cell (kp + 1) hk1
     rw [hz] at c0
     rw [hy] at c1
     obtain ⟨u9, c9⟩ := hSe.out.other (kp + 1) kp z hk1 hk0
     have f9 := (hSe.out.set (kp + 1) z hk1).cell kp hk0 |>.2
     have ew1 : IntKind.i64.wrap ((kp : Int) + 1) = (kp : Int) + 1 := by rw [IntKind.wrap_i64]; omega
     have ew2 : IntKind.i64.wrap (kp : Int) = (kp : Int) := by rw [IntKind.wrap_i64]; omega
     have ew5 : IntKind.i64.wrap ((kp : Int) + 1 - 1) = (kp : Int) := by rw [IntKind.wrap_i64]; omega
     have q1 : (kp : Int) + 1 < (n : Int) := by omega
     have q2 : (kp : Int) < (n : Int) := by omega
     have q3 : (0 : Int) ≤ (kp : Int) + 1 := by omega
     have q4 : ((kp : Int) + 1).toNat = kp + 1 := by omega
     clear hz hy hSe hM
     go_wp2_with fail
     go_big_region
     (try simp only [Exit.inBlock, Exit.then])
     go_wp2_with fail
     go_roundw
     case rel => exact ⟨kp, _, by omega, by omega, by first | rfl | go_num, (by first | exact hSx.out | exact hSx.out.drew | exact hSx.out.drew.drew | exact hSx.out.drew.drew.drew), hM2⟩
     case measure => first | (simp [intOf]; done) | (simp [intOf]; omega)
    ·obtain rfl : k = i := by omega
     go_wp2_with fail
     (first | go_end0 | go_ret | go_returns | (trace_state; fail))
     have h2' := h2.out
     subst h2'
     exact ⟨rfl, e, hSe.out, hM.out.mv, hd2.out e hM.out⟩
end Go.Proofs.YtkkbngcgphlikaaGreatDoor
end
