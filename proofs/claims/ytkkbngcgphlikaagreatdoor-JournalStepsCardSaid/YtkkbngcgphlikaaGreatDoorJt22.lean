/-
  Part of the proof of JournalSteps.
-/
import Derived.Test.YtkkbngcgphlikaaGreatDoorJt2
import Derived.Test.YtkkbngcgphlikaaGreatDoorJt7
import Derived.Test.YtkkbngcgphlikaaGreatDoorJt0
set_option maxRecDepth 10000
set_option maxHeartbeats 2000000
set_option linter.unusedVariables false
set_option linter.unusedSimpArgs false
section
namespace Go.Proofs.YtkkbngcgphlikaaGreatDoor
open Go.RowKit Go.ChangeShapes Go.WideShapes Go.Deep
def eI (x : Nat) : List Value := [.int .i64 (x : Nat)]
theorem eI_len (x : Nat) : (eI x).length = 1 := rfl
theorem infoI : (Tryz.prog.info? 3).map (fun i => (i.zero, i.size, i.bytes)) = some (some (.int .i64 0), 1, 8) := by kernel_rfl
theorem iT : ElT Tryz.prog 84 3 1 8 eI :=
 ⟨Tryz.underlying84, by obtain ⟨i0, h1, h2, h3, h4⟩ := info_parts infoI; exact ⟨i0, _, h1, h2, h3, h4, rfl⟩, eI_len, fun x u hu => by simp only [eI, List.mem_singleton] at hu; subst hu; rfl, by decide, by decide⟩
abbrev IKO (w : World) (base : Nat) (v : Value) (l : List Nat) : Prop := OwnE 3 1 eI w base v l
structure SD (w0 : World) (base g n cap : Nat) (d : List Nat) (w : World) : Prop where
 own : IKO w base (.slice (some ⟨g, 0, none⟩) n cap) d
 len : d.length = n
 kept : Below base w0 w
 low : base ≤ g
theorem SD.drew {w0 w : World} {base g n cap : Nat} {d : List Nat} (h : SD w0 base g n cap d w) : SD w0 base g n cap d w.drew := ⟨h.own.drew, h.len, h.kept.drew, h.low⟩
theorem SD.cell {w0 w : World} {base g n cap : Nat} {d : List Nat} (h : SD w0 base g n cap d w) (i : Nat) (hi : i < n) : w.cell? ⟨g, i, none⟩ = some (.int .i64 (d.getD i 0 : Nat)) ∧ w.frozen? ⟨g, i, none⟩ = false := by
 have := OwnE.cell (e := 3) (en := eI) eI_len h.own h.len hi (j := 0) (by decide)
 simpa [eI] using this
theorem SD.set {w0 w : World} {base g n cap : Nat} {d : List Nat} (h : SD w0 base g n cap d w) (i x : Nat) (hi : i < n) : SD w0 base g n cap (d.set i x) (w.setCell ⟨g, i, none⟩ (.int .i64 (x : Nat))) := by
 refine ⟨?_, by rw [List.length_set]; exact h.len, h.kept.setCell (by simpa using h.low) _, h.low⟩
 have := OwnE.set (e := 3) (en := eI) eI_len h.own h.len hi (j := 0) (by decide) (x' := x) (u := .int .i64 (x : Nat)) rfl
 simpa using this
theorem SD.swap {w0 w : World} {base g n cap : Nat} {d : List Nat} (h : SD w0 base g n cap d w) (i j x y : Nat) (hi : i < n) (hj : j < n) (hx : d.getD i 0 = x) (hy : d.getD j 0 = y) :
 SD w0 base g n cap (swL d i j) ((w.setCell ⟨g, i, none⟩ (.int .i64 (y : Nat))).setCell ⟨g, j, none⟩ (.int .i64 (x : Nat))).drew := by
 subst hx hy
 exact ((h.set i _ hi).set j _ hj).drew
theorem SD.other {w0 w : World} {base g n cap : Nat} {d : List Nat} (h : SD w0 base g n cap d w) (i j y : Nat) (hi : i < n) (hj : j < n) :
 ∃ u, (w.setCell ⟨g, i, none⟩ (.int .i64 (y : Nat))).cell? ⟨g, j, none⟩ = some u := ⟨_, ((h.set i y hi).cell j hj).1⟩
def CmpOk (cb : Array Value) (f : Nat → Int) (N base : Nat) (w0 : World) : Prop := ∀ w x y, Below base w0 w → x < N → y < N → Calls Tryz.prog 193 (#[.int .i64 (x : Nat), .int .i64 (y : Nat)] ++ cb) w fun e w' => e = .returned (.int .i64 (f x - f y)) ∧ w' = w.drew
theorem insertion_any (cb : Array Value) (f ke : Nat → Int) (N a b base g n cap : Nat) (d0 : List Nat) (w0 w : World) (HC : Hid (CmpOk cb f N base w0)) (K : Hid (Key N f ke)) (S0 : SD w0 base g n cap d0 w) (hab : a ≤ b) (hb : b ≤ n) (hn : n ≤ 100000)
 (hN : Hid (∀ x ∈ d0, x < N)) (hA : Hid (Srt nI d0 a b)) :
 Calls Tryz.prog 216 #[.slice (some ⟨g, 0, none⟩) n cap, .int .i64 a, .int .i64 b, .func (.func 193) #[] cb] w fun e w' => e = .returned (.tuple #[]) ∧ ∃ d1, SD w0 base g n cap d1 w' ∧ Mv a b d0 d1 ∧ Srt ke d1 a b := by
 have hl0 := lh S0.len
 replace S0 := lh S0
 go_enter Tryz.func216, Tryz.ntmps216
 go_wp2_with fail
 go_loopw [8] (fun i wr => ∃ (k : Nat) (d : List Nat), a < k ∧ k ≤ b + 1 ∧ i = .int .i64 k ∧ Hid (SD w0 base g n cap d wr) ∧ Hid (Mv a (min k b) d0 d) ∧ Hid (Srt ke d a (min k b))) (fun i _ => b + 1 - (intOf i).toNat)
 case atStart => exact ⟨a + 1, d0, by omega, by omega, by go_num, S0, Mv.refl _ _ _, Srt.short (by omega)⟩
 obtain ⟨i, di, hai, hib, rfl, SI, MI, RI⟩ := hrel
 by_cases hlt : i < b
 rotate_left
 ·have hmin : min i b = b := Nat.min_eq_right (by omega)
  rw [hmin] at MI RI
  go_wp2_with fail
  go_end0
  exact ⟨rfl, di, SI.out, MI.out, RI.out⟩
 have hltz : (i : Int) < (b : Int) := by omega
 rw [Nat.min_eq_left (by omega)] at MI RI
 have hli := lh SI.out.len
 have hNi := lh (fun x (hx : x ∈ di) => hN.out x (MI.out.perm.mem_iff.1 hx))
 -- the one that is put in is greater, as a number, than what stands ahead of it
 have hBig := lh (fun q (h1 : a ≤ q) (h2 : q < i) => show di.getD q 0 < di.getD i 0 from by
  obtain ⟨q', a1, a2, a3⟩ := MI.out.inn q h1 h2
  rw [a3, MI.out.out i (by omega)]
  exact nI_lt (hA.out q' i a1 a2 hlt))
 obtain ⟨x, hxi⟩ : ∃ x, di.getD i 0 = x := ⟨_, rfl⟩
 have hxm := lh (hNi.out x (by rw [← hxi, List.getD_eq_getElem?_getD, List.getElem?_eq_getElem (by rw [hli.out]; omega)]; exact List.getElem_mem _))
 replace hxi := lh hxi
 go_wp2_with fail
 go_loopw [9] (fun u wr2 => ∃ (j : Nat) (d : List Nat), a ≤ j ∧ j ≤ i ∧ u = .int .i64 j ∧ Hid (SD w0 base g n cap d wr2) ∧ Hid (Ins di d a i j) ∧ Hid (∀ q, j ≤ q → q < i → ke (di.getD i 0) < ke (di.getD q 0))) (fun u _ => (intOf u).toNat)
 case atStart => exact ⟨i, di, by omega, Nat.le_refl _, rfl, SI, Ins.start di a i, fun q q1 q2 => by omega⟩
 obtain ⟨j, d, haj, hji, rfl, hSd', hI, hQ⟩ := hrel
 have hSd := hSd'.out
 by_cases hja : a < j
 rotate_left
 ·obtain rfl : j = a := by omega
  have hja1 : ¬ ((j : Int) > (j : Int)) := by omega
  have hja2 : decide ((j : Int) > (j : Int)) = false := decide_eq_false hja1
  have hdone := lh (hI.out.done (g := ke) RI.out haj hji (.inl rfl) hQ.out)
  have hMv := lh (MI.out.wide (Nat.le_refl _) (show i ≤ i + 1 by omega) |>.trans hI.out.mv)
  clear hSd'
  go_wp2_with fail
  refine wp_region_held_drew (S := (fun w' => SD w0 base g n cap d w')) (by kernel_rfl) ?_ (fun hHeld => ?_)
  ·(try dsimp only)
   (first | exact hSd.drew | exact hHeld.drew)
  refine takeQ 0 ?_
  refine takeQ 1 ?_
  refine takeQ 2 ?_
  refine takeQ 3 ?_
  refine idleQ 4 ?_
  refine idleQ 5 ?_
  refine idleQ 6 ?_
  refine idleQ 7 ?_
  refine idleQ 8 ?_
  refine idleQ 9 ?_
  refine idleQ 10 ?_
  refine idleQ 11 ?_
  refine idleQ 12 ?_
  refine idleQ 13 ?_
  refine idleQ 14 ?_
  refine idleQ 15 ?_
  refine takeQ 16 ?_
  refine wpAnyH_done (by kernel_rfl) ?_ _
  (try simp only [Exit.inBlock, Exit.then])
  replace hHeld := lh hHeld
  clear hSd
  go_wp2_with fail
  go_roundw
  case rel => exact ⟨i + 1, d, by omega, by omega, by go_num, hHeld, (show Mv j (min (i + 1) b) d0 d from by rw [Nat.min_eq_left (by omega)]; exact hMv.out), (show Srt ke d j (min (i + 1) b) from by rw [Nat.min_eq_left (by omega)]; exact hdone.out)⟩
  first | (simp [intOf]; done) | (simp [intOf]; omega)
 have haj' : a ≤ j - 1 := by omega
 obtain ⟨jp, rfl⟩ : ∃ q, j = q + 1 := ⟨j - 1, by omega⟩
 simp only [Nat.add_sub_cancel] at haj'
 have hj1 : jp + 1 < n := by omega
 have hj0 : jp < n := by omega
 have hx : d.getD (jp + 1) 0 = x := by rw [hI.out.at_]; unfold insF; rw [if_pos rfl]; exact hxi.out
 obtain ⟨y, hy⟩ : ∃ y, d.getD jp 0 = y := ⟨_, rfl⟩
 have hyd : di.getD jp 0 = y := by rw [← hy, hI.out.at_]; unfold insF; rw [if_neg (by omega), if_neg (by omega)]
 have hyN : y < N := hNi.out y (by rw [← hyd, List.getD_eq_getElem?_getD, List.getElem?_eq_getElem (by rw [hli.out]; omega)]; exact List.getElem_mem _)
 have hxN := hxm.out
 have hyx : y < x := by rw [← hyd, ← hxi.out]; exact hBig.out jp (by omega) (by omega)
 have hlt1 := lh (K.out.lt x y hyx hxN)
 have hge1 := lh (K.out.ge x y hyx hxN)
 have hCf := HC
 obtain ⟨fx, hfx⟩ : ∃ z, f x = z := ⟨_, rfl⟩
 obtain ⟨fy, hfy⟩ : ∃ z, f y = z := ⟨_, rfl⟩
 have hja1 : ((jp : Int) + 1 > (a : Int)) := by omega
 have hja2 : decide ((jp : Int) + 1 > (a : Int)) = true := decide_eq_true (by omega)
 have ew1 : IntKind.i64.wrap ((jp : Int) + 1) = (jp : Int) + 1 := by rw [IntKind.wrap_i64]; omega
 have ew2 : IntKind.i64.wrap ((jp : Int) + 1 - 1) = (jp : Int) := by rw [IntKind.wrap_i64]; omega
 have ew3 : IntKind.i64.wrap (jp : Int) = (jp : Int) := by rw [IntKind.wrap_i64]; omega
 have b1 : (jp : Int) + 1 < (n : Int) := by omega
 have b2 : (jp : Int) < (n : Int) := by omega
 have b3 : (0 : Int) ≤ (jp : Int) + 1 := by omega
 have t1 : ((jp : Int) + 1).toNat = jp + 1 := by omega
 by_cases hf : fx < fy
 rotate_left
 ·have hke := lh (hge1.out (by rw [hfx, hfy]; exact hf))
  have g1 : ¬ fx - fy < 0 := by omega
  have g2 : decide (fx - fy < 0) = false := decide_eq_false g1
  have hdone := lh (hI.out.done (g := ke) RI.out haj hji (.inr (by rw [Nat.add_sub_cancel, hyd, hxi.out]; exact hke.out)) hQ.out)
  have hMv := lh (MI.out.wide (Nat.le_refl _) (show i ≤ i + 1 by omega) |>.trans hI.out.mv)
  replace hx := lh hx
  replace hy := lh hy
  replace hyd := lh hyd
  replace hfx := lh hfx
  replace hfy := lh hfy
  clear hlt1 hge1 hke hSd'
  go_wp2_with fail
  refine wp_region_held_drew (S := (fun w' => SD w0 base g n cap d w')) (by kernel_rfl) ?_ (fun hHeld => ?_)
  ·(try dsimp only)
   (first | exact hSd.drew | exact hHeld.drew)
  refine takeL 0 (v := ?_) rfl (by kernel_rfl) (by kernel_rfl) (by kernel_rfl) (fun _ _ _ h => h) (by rfl) (by assumption) ?_ ?_
  rotate_left
  ·(intro w hSw; (try dsimp only at hSw); (have p0 := (hSw.cell (jp + 1) hj1).1; have p1 := (hSw.cell jp hj0).1; rw [hx.out] at p0; rw [hy.out] at p1); go_simp <;> with_reducible rfl)
  try simp only [Act.put,sA,sB,sC]
  refine takeL 1 (v := ?_) rfl (by kernel_rfl) (by kernel_rfl) (by kernel_rfl) (fun _ _ _ h => h) (by rfl) (by assumption) ?_ ?_
  rotate_left
  ·(intro w hSw; (try dsimp only at hSw); (have p0 := (hSw.cell (jp + 1) hj1).1; have p1 := (hSw.cell jp hj0).1; rw [hx.out] at p0; rw [hy.out] at p1); go_simp <;> with_reducible rfl)
  try simp only [Act.put,sA,sB,sC]
  refine takeL 2 (v := ?_) rfl (by kernel_rfl) (by kernel_rfl) (by kernel_rfl) (fun _ _ _ h => h) (by rfl) (by assumption) ?_ ?_
  rotate_left
  ·(intro w hSw; (try dsimp only at hSw); (have p0 := (hSw.cell (jp + 1) hj1).1; have p1 := (hSw.cell jp hj0).1; rw [hx.out] at p0; rw [hy.out] at p1); go_simp <;> with_reducible rfl)
  try simp only [Act.put,sA,sB,sC]
  refine takeL 3 (v := ?_) rfl (by kernel_rfl) (by kernel_rfl) (by kernel_rfl) (fun _ _ _ h => h) (by rfl) (by assumption) ?_ ?_
  rotate_left
  ·(intro w hSw; (try dsimp only at hSw); (have p0 := (hSw.cell (jp + 1) hj1).1; have p1 := (hSw.cell jp hj0).1; rw [hx.out] at p0; rw [hy.out] at p1); go_simp <;> with_reducible rfl)
  try simp only [Act.put,sA,sB,sC]
  refine takeL 4 (v := ?_) rfl (by kernel_rfl) (by kernel_rfl) (by kernel_rfl) (fun _ _ _ h => h) (by rfl) (by assumption) ?_ ?_
  rotate_left
  ·(intro w hSw; (try dsimp only at hSw); (have p0 := (hSw.cell (jp + 1) hj1).1; have p1 := (hSw.cell jp hj0).1; rw [hx.out] at p0; rw [hy.out] at p1); go_simp <;> with_reducible rfl)
  try simp only [Act.put,sA,sB,sC]
  refine takeL 5 (v := ?_) rfl (by kernel_rfl) (by kernel_rfl) (by kernel_rfl) (fun _ _ _ h => h) (by rfl) (by assumption) ?_ ?_
  rotate_left
  ·(intro w hSw; (try dsimp only at hSw); (have p0 := (hSw.cell (jp + 1) hj1).1; have p1 := (hSw.cell jp hj0).1; rw [hx.out] at p0; rw [hy.out] at p1); go_simp <;> with_reducible rfl)
  try simp only [Act.put,sA,sB,sC]
  refine takeL 6 (v := ?_) rfl (by kernel_rfl) (by kernel_rfl) (by kernel_rfl) (fun _ _ _ h => h) (by rfl) (by assumption) ?_ ?_
  rotate_left
  ·(intro w hSw; (try dsimp only at hSw); (have p0 := (hSw.cell (jp + 1) hj1).1; have p1 := (hSw.cell jp hj0).1; rw [hx.out] at p0; rw [hy.out] at p1); go_simp <;> with_reducible rfl)
  try simp only [Act.put,sA,sB,sC]
  refine takeL 7 (v := ?_) rfl (by kernel_rfl) (by kernel_rfl) (by kernel_rfl) (fun _ _ _ h => h) (by rfl) (by assumption) ?_ ?_
  rotate_left
  ·(intro w hSw; (try dsimp only at hSw); (have p0 := (hSw.cell (jp + 1) hj1).1; have p1 := (hSw.cell jp hj0).1; rw [hx.out] at p0; rw [hy.out] at p1); go_simp <;> with_reducible rfl)
  try simp only [Act.put,sA,sB,sC]
  refine takeL 8 (v := ?_) rfl (by kernel_rfl) (by kernel_rfl) (by kernel_rfl) (fun _ _ _ h => h) (by rfl) (by assumption) ?_ ?_
  rotate_left
  ·(intro w hSw; (try dsimp only at hSw); (have p0 := (hSw.cell (jp + 1) hj1).1; have p1 := (hSw.cell jp hj0).1; rw [hx.out] at p0; rw [hy.out] at p1); go_simp <;> with_reducible rfl)
  try simp only [Act.put,sA,sB,sC]
  refine takeL 9 (v := ?_) rfl (by kernel_rfl) (by kernel_rfl) (by kernel_rfl) (fun _ _ _ h => h) (by rfl) (by assumption) ?_ ?_
  rotate_left
  ·(intro w hSw; (try dsimp only at hSw); (have p0 := (hSw.cell (jp + 1) hj1).1; have p1 := (hSw.cell jp hj0).1; rw [hx.out] at p0; rw [hy.out] at p1); go_simp <;> with_reducible rfl)
  try simp only [Act.put,sA,sB,sC]
  refine takeL 10 (v := ?_) rfl (by kernel_rfl) (by kernel_rfl) (by kernel_rfl) (fun _ _ _ h => h) (by rfl) (by assumption) ?_ ?_
  rotate_left
  ·(intro w hSw; (try dsimp only at hSw); (have p0 := (hSw.cell (jp + 1) hj1).1; have p1 := (hSw.cell jp hj0).1; rw [hx.out] at p0; rw [hy.out] at p1); go_simp <;> with_reducible rfl)
  try simp only [Act.put,sA,sB,sC]
  refine takeL 11 (v := ?_) rfl (by kernel_rfl) (by kernel_rfl) (by kernel_rfl) (fun _ _ _ h => h) (by rfl) (by assumption) ?_ ?_
  rotate_left
  ·(intro w hSw; (try dsimp only at hSw); (have p0 := (hSw.cell (jp + 1) hj1).1; have p1 := (hSw.cell jp hj0).1; rw [hx.out] at p0; rw [hy.out] at p1); go_simp <;> with_reducible rfl)
  try simp only [Act.put,sA,sB,sC]
  refine takeL 12 (v := ?_) rfl (by kernel_rfl) (by kernel_rfl) (by kernel_rfl) (fun _ _ _ h => h) (by rfl) (by assumption) ?_ ?_
  rotate_left
  ·(intro w hSw; (try dsimp only at hSw); (have p0 := (hSw.cell (jp + 1) hj1).1; have p1 := (hSw.cell jp hj0).1; rw [hx.out] at p0; rw [hy.out] at p1); go_simp <;> with_reducible rfl)
  try simp only [Act.put,sA,sB,sC]
  refine takeL 13 (v := ?_) rfl (by kernel_rfl) (by kernel_rfl) (by kernel_rfl) (fun _ _ _ h => h) (by rfl) (by assumption) ?_ ?_
  rotate_left
  ·(intro w hSw; (try dsimp only at hSw); (have p0 := (hSw.cell (jp + 1) hj1).1; have p1 := (hSw.cell jp hj0).1; rw [hx.out] at p0; rw [hy.out] at p1); go_simp <;> with_reducible rfl)
  try simp only [Act.put,sA,sB,sC]
  refine oneL 14 rfl (by kernel_rfl) (fun K hK => ?_)
  go_simp
  (have hq := HC.out _ x y hHeld.kept hxN hyN; rw [hfx.out, hfy.out] at hq; go_at_call 193; (with_reducible refine hq.mono ?_); rintro e w8 ⟨rfl, rfl⟩)
  refine hK.out _ _ ?_ (fun hHeld2 => ?_)
  ·(try dsimp only)
   (first | exact hSd.drew | exact hHeld.drew)
  clear hK K hHeld
  have hHeld := hHeld2
  clear hHeld2
  try simp only [Act.put,sA,sB,sC]
  refine takeL 15 (v := ?_) rfl (by kernel_rfl) (by kernel_rfl) (by kernel_rfl) (fun _ _ _ h => h) (by rfl) (by assumption) ?_ ?_
  rotate_left
  ·(intro w hSw; (try dsimp only at hSw); (have p0 := (hSw.cell (jp + 1) hj1).1; have p1 := (hSw.cell jp hj0).1; rw [hx.out] at p0; rw [hy.out] at p1); go_simp <;> with_reducible rfl)
  try simp only [Act.put,sA,sB,sC]
  refine takeL 16 (v := ?_) rfl (by kernel_rfl) (by kernel_rfl) (by kernel_rfl) (fun _ _ _ h => h) (by rfl) (by assumption) ?_ ?_
  rotate_left
  ·(intro w hSw; (try dsimp only at hSw); (have p0 := (hSw.cell (jp + 1) hj1).1; have p1 := (hSw.cell jp hj0).1; rw [hx.out] at p0; rw [hy.out] at p1); go_simp <;> with_reducible rfl)
  try simp only [Act.put,sA,sB,sC]
  refine wpAnyH_done (by kernel_rfl) ?_ _
  (try simp only [Exit.inBlock, Exit.then])
  replace hHeld := lh hHeld
  clear hSd
  go_wp2_with fail
  go_roundw
  case rel => exact ⟨i + 1, d, by omega, by omega, by go_num, hHeld, (show Mv a (min (i + 1) b) d0 d from by rw [Nat.min_eq_left (by omega)]; exact hMv.out), (show Srt ke d a (min (i + 1) b) from by rw [Nat.min_eq_left (by omega)]; exact hdone.out)⟩
  first | (simp [intOf]; done) | (simp [intOf]; omega)
 have hke := lh (hlt1.out (by rw [hfx, hfy]; exact hf))
 have g1 : fx - fy < 0 := by omega
 have g2 : decide (fx - fy < 0) = true := decide_eq_true g1
 have hqs := lh (Ins.below (j := jp) (by rw [hyd, hxi.out]; exact hke.out) hQ.out)
 have hIn := lh (hI.out.step haj' hji (by rw [hli.out]; omega))
 have hC0 := lh (fun (w : World) (h : SD w0 base g n cap d w) => show w.cell? ⟨g, jp + 1, none⟩ = some (.int .i64 (x : Nat)) ∧ w.frozen? ⟨g, jp + 1, none⟩ = false from by have c := h.cell (jp + 1) hj1; rw [hx] at c; exact c)
 have hC1 := lh (fun (w : World) (h : SD w0 base g n cap d w) => show w.cell? ⟨g, jp, none⟩ = some (.int .i64 (y : Nat)) ∧ w.frozen? ⟨g, jp, none⟩ = false from by have c := h.cell jp hj0; rw [hy] at c; exact c)
 replace hx := lh hx
 replace hy := lh hy
 replace hyd := lh hyd
 replace hfx := lh hfx
 replace hfy := lh hfy
 clear hlt1 hge1 hke hSd'
 go_wp2_with fail
 refine wp_region_held_drew (S := (fun w' => SD w0 base g n cap d w')) (by kernel_rfl) ?_ (fun hHeld => ?_)
 ·(try dsimp only)
  (first | exact hSd.drew | exact hHeld.drew)
 refine takeL 0 (v := ?_) rfl (by kernel_rfl) (by kernel_rfl) (by kernel_rfl) (fun _ _ _ h => h) (by rfl) (by assumption) ?_ ?_
 rotate_left
 ·(intro w hSw; (try dsimp only at hSw); (have p0 := (hSw.cell (jp + 1) hj1).1; have p1 := (hSw.cell jp hj0).1; rw [hx.out] at p0; rw [hy.out] at p1); go_simp <;> with_reducible rfl)
 try simp only [Act.put,sA,sB,sC]
 refine takeL 1 (v := ?_) rfl (by kernel_rfl) (by kernel_rfl) (by kernel_rfl) (fun _ _ _ h => h) (by rfl) (by assumption) ?_ ?_
 rotate_left
 ·(intro w hSw; (try dsimp only at hSw); (have p0 := (hSw.cell (jp + 1) hj1).1; have p1 := (hSw.cell jp hj0).1; rw [hx.out] at p0; rw [hy.out] at p1); go_simp <;> with_reducible rfl)
 try simp only [Act.put,sA,sB,sC]
 refine takeL 2 (v := ?_) rfl (by kernel_rfl) (by kernel_rfl) (by kernel_rfl) (fun _ _ _ h => h) (by rfl) (by assumption) ?_ ?_
 rotate_left
 ·(intro w hSw; (try dsimp only at hSw); (have p0 := (hSw.cell (jp + 1) hj1).1; have p1 := (hSw.cell jp hj0).1; rw [hx.out] at p0; rw [hy.out] at p1); go_simp <;> with_reducible rfl)
 try simp only [Act.put,sA,sB,sC]
 refine takeL 3 (v := ?_) rfl (by kernel_rfl) (by kernel_rfl) (by kernel_rfl) (fun _ _ _ h => h) (by rfl) (by assumption) ?_ ?_
 rotate_left
 ·(intro w hSw; (try dsimp only at hSw); (have p0 := (hSw.cell (jp + 1) hj1).1; have p1 := (hSw.cell jp hj0).1; rw [hx.out] at p0; rw [hy.out] at p1); go_simp <;> with_reducible rfl)
 try simp only [Act.put,sA,sB,sC]
 refine takeL 4 (v := ?_) rfl (by kernel_rfl) (by kernel_rfl) (by kernel_rfl) (fun _ _ _ h => h) (by rfl) (by assumption) ?_ ?_
 rotate_left
 ·(intro w hSw; (try dsimp only at hSw); (have p0 := (hSw.cell (jp + 1) hj1).1; have p1 := (hSw.cell jp hj0).1; rw [hx.out] at p0; rw [hy.out] at p1); go_simp <;> with_reducible rfl)
 try simp only [Act.put,sA,sB,sC]
 refine takeL 5 (v := ?_) rfl (by kernel_rfl) (by kernel_rfl) (by kernel_rfl) (fun _ _ _ h => h) (by rfl) (by assumption) ?_ ?_
 rotate_left
 ·(intro w hSw; (try dsimp only at hSw); (have p0 := (hSw.cell (jp + 1) hj1).1; have p1 := (hSw.cell jp hj0).1; rw [hx.out] at p0; rw [hy.out] at p1); go_simp <;> with_reducible rfl)
 try simp only [Act.put,sA,sB,sC]
 refine takeL 6 (v := ?_) rfl (by kernel_rfl) (by kernel_rfl) (by kernel_rfl) (fun _ _ _ h => h) (by rfl) (by assumption) ?_ ?_
 rotate_left
 ·(intro w hSw; (try dsimp only at hSw); (have p0 := (hSw.cell (jp + 1) hj1).1; have p1 := (hSw.cell jp hj0).1; rw [hx.out] at p0; rw [hy.out] at p1); go_simp <;> with_reducible rfl)
 try simp only [Act.put,sA,sB,sC]
 refine takeL 7 (v := ?_) rfl (by kernel_rfl) (by kernel_rfl) (by kernel_rfl) (fun _ _ _ h => h) (by rfl) (by assumption) ?_ ?_
 rotate_left
 ·(intro w hSw; (try dsimp only at hSw); (have p0 := (hSw.cell (jp + 1) hj1).1; have p1 := (hSw.cell jp hj0).1; rw [hx.out] at p0; rw [hy.out] at p1); go_simp <;> with_reducible rfl)
 try simp only [Act.put,sA,sB,sC]
 refine takeL 8 (v := ?_) rfl (by kernel_rfl) (by kernel_rfl) (by kernel_rfl) (fun _ _ _ h => h) (by rfl) (by assumption) ?_ ?_
 rotate_left
 ·(intro w hSw; (try dsimp only at hSw); (have p0 := (hSw.cell (jp + 1) hj1).1; have p1 := (hSw.cell jp hj0).1; rw [hx.out] at p0; rw [hy.out] at p1); go_simp <;> with_reducible rfl)
 try simp only [Act.put,sA,sB,sC]
 refine takeL 9 (v := ?_) rfl (by kernel_rfl) (by kernel_rfl) (by kernel_rfl) (fun _ _ _ h => h) (by rfl) (by assumption) ?_ ?_
 rotate_left
 ·(intro w hSw; (try dsimp only at hSw); (have p0 := (hSw.cell (jp + 1) hj1).1; have p1 := (hSw.cell jp hj0).1; rw [hx.out] at p0; rw [hy.out] at p1); go_simp <;> with_reducible rfl)
 try simp only [Act.put,sA,sB,sC]
 refine takeL 10 (v := ?_) rfl (by kernel_rfl) (by kernel_rfl) (by kernel_rfl) (fun _ _ _ h => h) (by rfl) (by assumption) ?_ ?_
 rotate_left
 ·(intro w hSw; (try dsimp only at hSw); (have p0 := (hSw.cell (jp + 1) hj1).1; have p1 := (hSw.cell jp hj0).1; rw [hx.out] at p0; rw [hy.out] at p1); go_simp <;> with_reducible rfl)
 try simp only [Act.put,sA,sB,sC]
 refine takeL 11 (v := ?_) rfl (by kernel_rfl) (by kernel_rfl) (by kernel_rfl) (fun _ _ _ h => h) (by rfl) (by assumption) ?_ ?_
 rotate_left
 ·(intro w hSw; (try dsimp only at hSw); (have p0 := (hSw.cell (jp + 1) hj1).1; have p1 := (hSw.cell jp hj0).1; rw [hx.out] at p0; rw [hy.out] at p1); go_simp <;> with_reducible rfl)
 try simp only [Act.put,sA,sB,sC]
 refine takeL 12 (v := ?_) rfl (by kernel_rfl) (by kernel_rfl) (by kernel_rfl) (fun _ _ _ h => h) (by rfl) (by assumption) ?_ ?_
 rotate_left
 ·(intro w hSw; (try dsimp only at hSw); (have p0 := (hSw.cell (jp + 1) hj1).1; have p1 := (hSw.cell jp hj0).1; rw [hx.out] at p0; rw [hy.out] at p1); go_simp <;> with_reducible rfl)
 try simp only [Act.put,sA,sB,sC]
 refine takeL 13 (v := ?_) rfl (by kernel_rfl) (by kernel_rfl) (by kernel_rfl) (fun _ _ _ h => h) (by rfl) (by assumption) ?_ ?_
 rotate_left
 ·(intro w hSw; (try dsimp only at hSw); (have p0 := (hSw.cell (jp + 1) hj1).1; have p1 := (hSw.cell jp hj0).1; rw [hx.out] at p0; rw [hy.out] at p1); go_simp <;> with_reducible rfl)
 try simp only [Act.put,sA,sB,sC]
 refine oneL 14 rfl (by kernel_rfl) (fun K hK => ?_)
 go_simp
 (have hq := HC.out _ x y hHeld.kept hxN hyN; rw [hfx.out, hfy.out] at hq; go_at_call 193; (with_reducible refine hq.mono ?_); rintro e w8 ⟨rfl, rfl⟩)
 refine hK.out _ _ ?_ (fun hHeld2 => ?_)
 ·(try dsimp only)
  (first | exact hSd.drew | exact hHeld.drew)
 clear hK K hHeld
 have hHeld := hHeld2
 clear hHeld2
 try simp only [Act.put,sA,sB,sC]
 refine takeL 15 (v := ?_) rfl (by kernel_rfl) (by kernel_rfl) (by kernel_rfl) (fun _ _ _ h => h) (by rfl) (by assumption) ?_ ?_
 rotate_left
 ·(intro w hSw; (try dsimp only at hSw); (have p0 := (hSw.cell (jp + 1) hj1).1; have p1 := (hSw.cell jp hj0).1; rw [hx.out] at p0; rw [hy.out] at p1); go_simp <;> with_reducible rfl)
 try simp only [Act.put,sA,sB,sC]
 refine takeL 16 (v := ?_) rfl (by kernel_rfl) (by kernel_rfl) (by kernel_rfl) (fun _ _ _ h => h) (by rfl) (by assumption) ?_ ?_
 rotate_left
 ·(intro w hSw; (try dsimp only at hSw); (have p0 := (hSw.cell (jp + 1) hj1).1; have p1 := (hSw.cell jp hj0).1; rw [hx.out] at p0; rw [hy.out] at p1); go_simp <;> with_reducible rfl)
 try simp only [Act.put,sA,sB,sC]
 refine wpAnyH_done (by kernel_rfl) ?_ _
 (try simp only [Exit.inBlock, Exit.then])
 replace hHeld := lh hHeld
 obtain ⟨c0, f0⟩ := hC0.out _ hHeld.out
 obtain ⟨c1, f1⟩ := hC1.out _ hHeld.out
 obtain ⟨u9, c9⟩ := hSd.other (jp + 1) jp y hj1 hj0
 have f9 := (hSd.set (jp + 1) y hj1).cell jp hj0 |>.2
 have hSx := lh (hSd.swap (jp + 1) jp x y hj1 hj0 hx.out hy.out)
 clear hHeld hSd
 go_wp2_with fail
 go_big_region
 (try simp only [Exit.inBlock, Exit.then])
 go_wp2_with fail
 go_roundw
 case rel => exact ⟨jp, _, haj', by omega, rfl, (by first | exact hSx.out | exact hSx.out.drew | exact hSx.out.drew.drew | exact hSx.out.drew.drew.drew), hIn, hqs⟩
 first | (simp [intOf]; done) | (simp [intOf]; omega)
end Go.Proofs.YtkkbngcgphlikaaGreatDoor
end
section
namespace Go.Proofs.YtkkbngcgphlikaaGreatDoor
open Go.RowKit
theorem end_any (s c g : Int) (w : World) :
 Calls Tryz.prog 72 #[.agg #[.int .i64 s, .int .i64 c, .int .u64 g]] w fun e w' => e = .returned (.agg #[.int .i64 0, .int .i64 0, .int .u64 g]) ∧ Below w.heap.size w w' := by
 go_enter Tryz.func72, Tryz.ntmps72
 go_wp2
 go_returns
 exact ⟨rfl, by go_grown⟩
theorem right_idle (c g : Int) (w : World) (hc : c = 0) (hg : g ≤ 281474976710655) :
 Calls Tryz.prog 166 #[.agg #[.int .i64 0, .int .i64 c, .int .u64 g]] w fun e w' => e = .returned (.bool true) ∧ Below w.heap.size w w' := by
 subst hc
 go_enter Tryz.func166, Tryz.ntmps166
 go_wp2
 go_region_held3 (fun w' => w'.cell? ⟨w.heap.size, 0, none⟩ = some (.int .i64 0) ∧ w'.cell? ⟨w.heap.size, 1, none⟩ = some (.int .i64 0) ∧ w'.cell? ⟨w.heap.size, 2, none⟩ = some (.int .u64 g) ∧ w.heap.size < w'.heap.size ∧ Below w.heap.size w w')
  (((try go_split_ands); refine ⟨?_, ?_, ?_, ?_, ?_⟩ <;> first
    | (rw [hb.cell (by assumption)]; assumption) | (have := hb.size; omega) | (exact Below.trans (by assumption) (hb.mono (Nat.le_of_lt (by assumption))))
    | (go_keep; done) | (go_grown; done)))
  ((go_at_call 72; refine (end_any _ _ _ _).mono ?_; rintro e w2 ⟨rfl, hb⟩))
 go_wp2
 go_ret
 go_split_ands
 exact ⟨rfl, by assumption⟩
theorem right_idle_no (c g : Int) (w : World) (hc : c ≠ 0) (hg : g ≤ 281474976710655) :
 Calls Tryz.prog 166 #[.agg #[.int .i64 0, .int .i64 c, .int .u64 g]] w fun e w' => e = .returned (.bool false) ∧ Below w.heap.size w w' := by
 go_enter Tryz.func166, Tryz.ntmps166
 go_wp2
 have hc1 : (c == 0) = false := by simpa using hc
 go_region_held3 (fun w' => w'.cell? ⟨w.heap.size, 0, none⟩ = some (.int .i64 0) ∧ w'.cell? ⟨w.heap.size, 1, none⟩ = some (.int .i64 c) ∧ w'.cell? ⟨w.heap.size, 2, none⟩ = some (.int .u64 g) ∧ w.heap.size < w'.heap.size ∧ Below w.heap.size w w')
  (((try go_split_ands); refine ⟨?_, ?_, ?_, ?_, ?_⟩ <;> first
    | (rw [hb.cell (by assumption)]; assumption) | (have := hb.size; omega) | (exact Below.trans (by assumption) (hb.mono (Nat.le_of_lt (by assumption))))
    | (go_keep; done) | (go_grown; done)))
  ((go_at_call 72; refine (end_any _ _ _ _).mono ?_; rintro e w2 ⟨rfl, hb⟩))
 go_wp2
 go_ret
 go_split_ands
 exact ⟨rfl, by assumption⟩
theorem right_work (s c g : Int) (w : World) (hs : 1 ≤ s) (hs2 : s ≤ 2) (hc : 0 ≤ c) (hc2 : c ≤ 16383) (hg : g ≤ 281474976710655) :
 Calls Tryz.prog 166 #[.agg #[.int .i64 s, .int .i64 c, .int .u64 g]] w fun e w' => e = .returned (.bool true) ∧ Below w.heap.size w w' := by
 go_enter Tryz.func166, Tryz.ntmps166
 go_wp2
 go_ret
 exact ⟨rfl, by go_grown⟩
theorem right_work_no (s c g : Int) (w : World) (hs : 1 ≤ s) (hs2 : s ≤ 2) (hc : c < 0 ∨ 16383 < c) (hg : g ≤ 281474976710655) :
 Calls Tryz.prog 166 #[.agg #[.int .i64 s, .int .i64 c, .int .u64 g]] w fun e w' => e = .returned (.bool false) ∧ Below w.heap.size w w' := by
 rcases hc with hc | hc
 ·go_enter Tryz.func166, Tryz.ntmps166
  go_wp2
  go_ret
  exact ⟨rfl, by go_grown⟩
 go_enter Tryz.func166, Tryz.ntmps166
 go_wp2
 go_ret
 exact ⟨ret_b (by simp; omega), by go_grown⟩
theorem right_out (s c g : Int) (w : World) (h : s < 0 ∨ 2 < s ∨ (0 ≤ s ∧ s ≤ 2 ∧ 281474976710655 < g)) :
 Calls Tryz.prog 166 #[.agg #[.int .i64 s, .int .i64 c, .int .u64 g]] w fun e w' => e = .returned (.bool false) ∧ Below w.heap.size w w' := by
 rcases h with h | h | ⟨h, h2, h3⟩
 ·go_enter Tryz.func166, Tryz.ntmps166
  go_wp2
  go_ret
  exact ⟨rfl, by go_grown⟩
 ·go_enter Tryz.func166, Tryz.ntmps166
  go_wp2
  go_ret
  exact ⟨rfl, by go_grown⟩
 go_enter Tryz.func166, Tryz.ntmps166
 go_wp2
 go_ret
 exact ⟨rfl, by go_grown⟩
def okB (s c g : Int) : Bool := decide (0 ≤ s ∧ s ≤ 2 ∧ 0 ≤ c ∧ c ≤ 16383 ∧ g ≤ 281474976710655 ∧ (s = 0 → c = 0))
theorem okB_t {s c g : Int} (h : okB s c g = true) : 0 ≤ s ∧ s ≤ 2 ∧ 0 ≤ c ∧ c ≤ 16383 ∧ g ≤ 281474976710655 ∧ (s = 0 → c = 0) := of_decide_eq_true h
theorem okB_f {s c g : Int} (h : okB s c g = false) : ¬ (0 ≤ s ∧ s ≤ 2 ∧ 0 ≤ c ∧ c ≤ 16383 ∧ g ≤ 281474976710655 ∧ (s = 0 → c = 0)) := of_decide_eq_false h
theorem right_t_mk (s c g : Int) (w : World) (h : okB s c g = true) :
 Calls Tryz.prog 166 #[.agg #[.int .i64 s, .int .i64 c, .int .u64 g]] w fun e w' => e = .returned (.bool true) ∧ Below w.heap.size w w' := by
 obtain ⟨h1, h2, h3, h4, h5, h6⟩ := okB_t h
 by_cases hs : s = 0
 ·subst hs; exact right_idle c g w (h6 rfl) h5
 exact right_work s c g w (by omega) h2 h3 h4 h5
theorem right_f_mk (s c g : Int) (w : World) (h : okB s c g = false) :
 Calls Tryz.prog 166 #[.agg #[.int .i64 s, .int .i64 c, .int .u64 g]] w fun e w' => e = .returned (.bool false) ∧ Below w.heap.size w w' := by
 have h1 := okB_f h
 by_cases ho : s < 0 ∨ 2 < s ∨ (0 ≤ s ∧ s ≤ 2 ∧ 281474976710655 < g)
 ·exact right_out s c g w ho
 by_cases hs : s = 0
 ·subst hs; exact right_idle_no c g w (by omega) (by omega)
 exact right_work_no s c g w (by omega) (by omega) (by omega) (by omega)
theorem refRight_t_mk (s c g : Int) (w : World) (h : okB s c g = true) :
 Calls Tryz.prog 140 #[.agg #[.int .i64 s, .int .i64 c, .int .u64 g]] w fun e w' => e = .returned (.bool true) ∧ Below w.heap.size w w' := by
 obtain ⟨h1, h2, h3, h4, h5, h6⟩ := okB_t h
 by_cases hs : s = 0
 ·subst hs
  obtain rfl := h6 rfl
  clear h6
  go_enter Tryz.func140, Tryz.ntmps140
  go_wp2
  go_ret
  exact ⟨rfl, by go_grown⟩
 clear h6
 have hs1 : 1 ≤ s := by omega
 go_enter Tryz.func140, Tryz.ntmps140
 go_wp2
 go_ret
 exact ⟨rfl, by go_grown⟩
theorem refRight_f_mk (s c g : Int) (w : World) (h : okB s c g = false) :
 Calls Tryz.prog 140 #[.agg #[.int .i64 s, .int .i64 c, .int .u64 g]] w fun e w' => e = .returned (.bool false) ∧ Below w.heap.size w w' := by
 have h1 := okB_f h
 clear h
 by_cases a1 : s < 0
 ·clear h1
  go_enter Tryz.func140, Tryz.ntmps140
  go_wp2
  go_ret
  exact ⟨rfl, by go_grown⟩
 by_cases a2 : 2 < s
 ·clear h1
  go_enter Tryz.func140, Tryz.ntmps140
  go_wp2
  go_ret
  exact ⟨rfl, by go_grown⟩
 by_cases a3 : c < 0
 ·clear h1
  go_enter Tryz.func140, Tryz.ntmps140
  go_wp2
  go_ret
  exact ⟨rfl, by go_grown⟩
 by_cases a4 : 16383 < c
 ·clear h1
  go_enter Tryz.func140, Tryz.ntmps140
  go_wp2
  go_ret
  exact ⟨rfl, by go_grown⟩
 by_cases a5 : 281474976710655 < g
 ·clear h1
  go_enter Tryz.func140, Tryz.ntmps140
  go_wp2
  go_ret
  exact ⟨rfl, by go_grown⟩
 have hs : s = 0 := by omega
 have hc1 : 1 ≤ c := by omega
 clear h1
 subst hs
 go_enter Tryz.func140, Tryz.ntmps140
 go_wp2
 go_ret
 exact ⟨ret_b (by simp; omega), by go_grown⟩
end Go.Proofs.YtkkbngcgphlikaaGreatDoor
end
