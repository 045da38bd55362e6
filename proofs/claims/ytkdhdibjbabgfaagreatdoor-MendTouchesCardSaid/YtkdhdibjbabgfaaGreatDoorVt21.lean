/-
  Part of the proof of MendTouches.
-/
import Derived.Test.YtkdhdibjbabgfaaGreatDoorVt2
import Derived.Test.YtkdhdibjbabgfaaGreatDoorVt7
import Derived.BigRegion
import Derived.Deep.RegionHeld3
import Derived.OwnWalkIn
import Derived.Test.YtkdhdibjbabgfaaGreatDoorVt0
set_option maxRecDepth 10000
set_option maxHeartbeats 2000000
set_option linter.unusedVariables false
set_option linter.unusedSimpArgs false

namespace Go.Proofs.YtkdhdibjbabgfaaGreatDoor
open Go.RowKit Go.ChangeShapes Go.WideShapes Go.Deep
def eI (x : Nat) : List Value := [.int .i64 (x : Nat)]
theorem eI_len (x : Nat) : (eI x).length = 1 := rfl
theorem infoI : (Tryz.prog.info? 3).map (fun i => (i.zero, i.size, i.bytes)) = some (some (.int .i64 0), 1, 8) := by kernel_rfl
theorem iT : ElT Tryz.prog 87 3 1 8 eI :=
 ⟨Tryz.underlying87, by obtain ⟨i0, h1, h2, h3, h4⟩ := info_parts infoI; exact ⟨i0, _, h1, h2, h3, h4, rfl⟩, eI_len, fun x u hu => by simp only [eI, List.mem_singleton] at hu; subst hu; rfl, by decide, by decide⟩
abbrev IKO (w : World) (base : Nat) (v : Value) (l : List Nat) : Prop := OwnE 3 1 eI w base v l
structure SD (w0 : World) (base g n cap : Nat) (d : List Nat) (w : World) : Prop where
 own : IKO w base (.slice (some ⟨g, 0, none⟩) n cap) d
 len : d.length = n
 kept : Below base w0 w
 low : base ≤ g
theorem SD.drew {w0 w : World} {base g n cap : Nat} {d : List Nat} (h : SD w0 base g n cap d w) : SD w0 base g n cap d w.drew := ⟨h.own.drew, h.len, h.kept.drew, h.low⟩
theorem SD.cell {w0 w : World} {base g n cap : Nat} {d : List Nat} (h : SD w0 base g n cap d w) (i : Nat) (hi : i < n) : w.cell? ⟨g, i, none⟩ = some (.int .i64 (d.getD i 0 : Nat)) ∧ w.frozen? ⟨g, i, none⟩ = false := by
 have := OwnE.cell (e := 3) (en := eI) eI_len h.own h.len hi (j := 0) (by decide)
 simpa [eI] using this
theorem SD.set {w0 w : World} {base g n cap : Nat} {d : List Nat} (h : SD w0 base g n cap d w) (i x : Nat) (hi : i < n) : SD w0 base g n cap (d.set i x) (w.setCell ⟨g, i, none⟩ (.int .i64 (x : Nat))) := by
 refine ⟨?_, by rw [List.length_set]; exact h.len, h.kept.setCell (by simpa using h.low) _, h.low⟩
 have := OwnE.set (e := 3) (en := eI) eI_len h.own h.len hi (j := 0) (by decide) (x' := x) (u := .int .i64 (x : Nat)) rfl
 simpa using this
theorem SD.swap {w0 w : World} {base g n cap : Nat} {d : List Nat} (h : SD w0 base g n cap d w) (i j x y : Nat) (hi : i < n) (hj : j < n) (hx : d.getD i 0 = x) (hy : d.getD j 0 = y) :
 SD w0 base g n cap (swL d i j) ((w.setCell ⟨g, i, none⟩ (.int .i64 (y : Nat))).setCell ⟨g, j, none⟩ (.int .i64 (x : Nat))).drew := by
 subst hx hy
 exact ((h.set i _ hi).set j _ hj).drew
theorem SD.other {w0 w : World} {base g n cap : Nat} {d : List Nat} (h : SD w0 base g n cap d w) (i j y : Nat) (hi : i < n) (hj : j < n) :
 ∃ u, (w.setCell ⟨g, i, none⟩ (.int .i64 (y : Nat))).cell? ⟨g, j, none⟩ = some u := ⟨_, ((h.set i y hi).cell j hj).1⟩
def CmpOk (cb : Array Value) (f : Nat → Int) (N base : Nat) (w0 : World) : Prop := ∀ w x y, Below base w0 w → x < N → y < N → Calls Tryz.prog 107 (#[.int .i64 (x : Nat), .int .i64 (y : Nat)] ++ cb) w fun e w' => e = .returned (.int .i64 (f x - f y)) ∧ w' = w.drew
theorem insertion_any (cb : Array Value) (f ke : Nat → Int) (N a b base g n cap : Nat) (d0 : List Nat) (w0 w : World) (HC : Hid (CmpOk cb f N base w0)) (K : Hid (Key N f ke)) (S0 : SD w0 base g n cap d0 w) (hab : a ≤ b) (hb : b ≤ n) (hn : n ≤ 100000)
 (hN : Hid (∀ x ∈ d0, x < N)) (hA : Hid (Srt nI d0 a b)) :
 Calls Tryz.prog 141 #[.slice (some ⟨g, 0, none⟩) n cap, .int .i64 a, .int .i64 b, .func (.func 107) #[] cb] w fun e w' => e = .returned (.tuple #[]) ∧ ∃ d1, SD w0 base g n cap d1 w' ∧ Mv a b d0 d1 ∧ Srt ke d1 a b := by
 have hl0 := lh S0.len
 replace S0 := lh S0
 go_enter Tryz.func141, Tryz.ntmps141
 go_wp2_with fail
 go_loopw [8] (fun i wr => ∃ (k : Nat) (d : List Nat), a < k ∧ k ≤ b + 1 ∧ i = .int .i64 k ∧ Hid (SD w0 base g n cap d wr) ∧ Hid (Mv a (min k b) d0 d) ∧ Hid (Srt ke d a (min k b))) (fun i _ => b + 1 - (intOf i).toNat)
 case atStart => exact ⟨a + 1, d0, by omega, by omega, by go_num, S0, Mv.refl _ _ _, Srt.short (by omega)⟩
 case round =>
  obtain ⟨i, di, hai, hib, rfl, SI, MI, RI⟩ := hrel
  by_cases hlt : i < b
  ·have hltz : (i : Int) < (b : Int) := by omega
   rw [Nat.min_eq_left (by omega)] at MI RI
   have hli := lh SI.out.len
   have hNi := lh (fun x (hx : x ∈ di) => hN.out x (MI.out.perm.mem_iff.1 hx))
   -- the one that is put in is greater, as a number, than what stands ahead of it
   have hBig := lh (fun q (h1 : a ≤ q) (h2 : q < i) => show di.getD q 0 < di.getD i 0 from by
    obtain ⟨q', a1, a2, a3⟩ := MI.out.inn q h1 h2
    rw [a3, MI.out.out i (by omega)]
    exact nI_lt (hA.out q' i a1 a2 hlt))
   obtain ⟨x, hxi⟩ : ∃ x, di.getD i 0 = x := ⟨_, rfl⟩
   have hxm := lh (hNi.out x (by rw [← hxi, List.getD_eq_getElem?_getD, List.getElem?_eq_getElem (by rw [hli.out]; omega)]; exact List.getElem_mem _))
   replace hxi := lh hxi
   go_wp2_with fail
   go_loopw [9] (fun u wr2 => ∃ (j : Nat) (d : List Nat), a ≤ j ∧ j ≤ i ∧ u = .int .i64 j ∧ Hid (SD w0 base g n cap d wr2) ∧ Hid (Ins di d a i j) ∧ Hid (∀ q, j ≤ q → q < i → ke (di.getD i 0) < ke (di.getD q 0))) (fun u _ => (intOf u).toNat)
   case atStart => exact ⟨i, di, by omega, Nat.le_refl _, rfl, SI, Ins.start di a i, fun q q1 q2 => by omega⟩
   case round =>
    obtain ⟨j, d, haj, hji, rfl, hSd', hI, hQ⟩ := hrel
    have hSd := hSd'.out
    by_cases hja : a < j
    ·have haj' : a ≤ j - 1 := by omega
     obtain ⟨jp, rfl⟩ : ∃ q, j = q + 1 := ⟨j - 1, by omega⟩
     simp only [Nat.add_sub_cancel] at haj'
     have hj1 : jp + 1 < n := by omega
     have hj0 : jp < n := by omega
     have hx : d.getD (jp + 1) 0 = x := by rw [hI.out.at_]; unfold insF; rw [if_pos rfl]; exact hxi.out
     obtain ⟨y, hy⟩ : ∃ y, d.getD jp 0 = y := ⟨_, rfl⟩
     have hyd : di.getD jp 0 = y := by rw [← hy, hI.out.at_]; unfold insF; rw [if_neg (by omega), if_neg (by omega)]
     have hyN : y < N := hNi.out y (by rw [← hyd, List.getD_eq_getElem?_getD, List.getElem?_eq_getElem (by rw [hli.out]; omega)]; exact List.getElem_mem _)
     have hxN := hxm.out
     have hyx : y < x := by rw [← hyd, ← hxi.out]; exact hBig.out jp (by omega) (by omega)
     have hlt1 := lh (K.out.lt x y hyx hxN)
     have hge1 := lh (K.out.ge x y hyx hxN)
     have hCf := HC
     obtain ⟨fx, hfx⟩ : ∃ z, f x = z := ⟨_, rfl⟩
     obtain ⟨fy, hfy⟩ : ∃ z, f y = z := ⟨_, rfl⟩
     have hja1 : ((jp : Int) + 1 > (a : Int)) := by omega
     have hja2 : decide ((jp : Int) + 1 > (a : Int)) = true := decide_eq_true (by omega)
     have ew1 : IntKind.i64.wrap ((jp : Int) + 1) = (jp : Int) + 1 := by rw [IntKind.wrap_i64]; omega
     have ew2 : IntKind.i64.wrap ((jp : Int) + 1 - 1) = (jp : Int) := by rw [IntKind.wrap_i64]; omega
     have ew3 : IntKind.i64.wrap (jp : Int) = (jp : Int) := by rw [IntKind.wrap_i64]; omega
     have b1 : (jp : Int) + 1 < (n : Int) := by omega
     have b2 : (jp : Int) < (n : Int) := by omega
     have b3 : (0 : Int) ≤ (jp : Int) + 1 := by omega
     have t1 : ((jp : Int) + 1).toNat = jp + 1 := by omega
     by_cases hf : fx < fy
     ·have hke := lh (hlt1.out (by rw [hfx, hfy]; exact hf))
      have g1 : fx - fy < 0 := by omega
      have g2 : decide (fx - fy < 0) = true := decide_eq_true g1
      have hqs := lh (Ins.below (j := jp) (by rw [hyd, hxi.out]; exact hke.out) hQ.out)
      have hIn := lh (hI.out.step haj' hji (by rw [hli.out]; omega))
      have hC0 := lh (fun (w : World) (h : SD w0 base g n cap d w) => show w.cell? ⟨g, jp + 1, none⟩ = some (.int .i64 (x : Nat)) ∧ w.frozen? ⟨g, jp + 1, none⟩ = false from by have c := h.cell (jp + 1) hj1; rw [hx] at c; exact c)
      have hC1 := lh (fun (w : World) (h : SD w0 base g n cap d w) => show w.cell? ⟨g, jp, none⟩ = some (.int .i64 (y : Nat)) ∧ w.frozen? ⟨g, jp, none⟩ = false from by have c := h.cell jp hj0; rw [hy] at c; exact c)
      replace hx := lh hx
      replace hy := lh hy
      replace hyd := lh hyd
      replace hfx := lh hfx
      replace hfy := lh hfy
      clear hlt1 hge1 hke hSd'
      go_wp2_with fail
      have hCF := fun (w : World) (hSw : SD w0 base g n cap d w) => And.intro (hSw.cell (jp + 1) hj1).1 ((hSw.cell jp hj0).1)
      rw [hx.out, hy.out] at hCF
      replace hCF := lh hCF
      refine wp_region_held_drew (S := (fun w' => SD w0 base g n cap d w')) (by kernel_rfl) ?_ (fun hHeld => ?_)
      ·(try dsimp only)
       (first | exact hSd.drew | exact hHeld.drew)
      refine takeH 0 ?_
      refine takeH 1 ?_
      refine takeH 2 ?_
      refine takeH 3 ?_
      refine takeH 4 ?_
      refine takeH 5 ?_
      refine takeH 6 ?_
      refine takeH 7 ?_
      refine takeH 8 ?_
      refine takeH 9 ?_
      refine takeH 10 ?_
      refine takeH 11 ?_
      refine takeH 12 ?_
      refine takeH 13 ?_
      refine oneL 14 rfl (by kernel_rfl) (fun K hK => ?_)
      go_simp
      (have hq := HC.out _ x y hHeld.kept hxN hyN; rw [hfx.out, hfy.out] at hq; go_at_call 107; (with_reducible refine hq.mono ?_); rintro e w8 ⟨rfl, rfl⟩)
      refine hK.out _ _ ?_ (fun hHeld2 => ?_)
      ·(try dsimp only)
       (first | exact hSd.drew | exact hHeld.drew)
      clear hK K hHeld
      have hHeld := hHeld2
      clear hHeld2
      try simp only [Act.put,sA,sB,sC]
      refine takeH 15 ?_
      refine takeH 16 ?_
      refine wpAnyH_done (by kernel_rfl) ?_ _
      clear hCF
      (try simp only [Exit.inBlock, Exit.then])
      replace hHeld := lh hHeld
      obtain ⟨c0, f0⟩ := hC0.out _ hHeld.out
      obtain ⟨c1, f1⟩ := hC1.out _ hHeld.out
      obtain ⟨u9, c9⟩ := hSd.other (jp + 1) jp y hj1 hj0
      have f9 := (hSd.set (jp + 1) y hj1).cell jp hj0 |>.2
      have hSx := lh (hSd.swap (jp + 1) jp x y hj1 hj0 hx.out hy.out)
      clear hHeld hSd
      go_wp2_with fail
      go_big_region
      (try simp only [Exit.inBlock, Exit.then])
      go_wp2_with fail
      go_roundw
      case rel => exact ⟨jp, _, haj', by omega, rfl, (by first | exact hSx.out | exact hSx.out.drew | exact hSx.out.drew.drew | exact hSx.out.drew.drew.drew), hIn, hqs⟩
      case measure => first | (simp [intOf]; done) | (simp [intOf]; omega)
     ·have hke := lh (hge1.out (by rw [hfx, hfy]; exact hf))
      have g1 : ¬ fx - fy < 0 := by omega
      have g2 : decide (fx - fy < 0) = false := decide_eq_false g1
      have hdone := lh (hI.out.done (g := ke) RI.out haj hji (.inr (by rw [Nat.add_sub_cancel, hyd, hxi.out]; exact hke.out)) hQ.out)
      have hMv := lh (MI.out.wide (Nat.le_refl _) (show i ≤ i + 1 by omega) |>.trans hI.out.mv)
      replace hx := lh hx
      replace hy := lh hy
      replace hyd := lh hyd
      replace hfx := lh hfx
      replace hfy := lh hfy
      clear hlt1 hge1 hke hSd'
      go_wp2_with fail
      have hCF := fun (w : World) (hSw : SD w0 base g n cap d w) => And.intro (hSw.cell (jp + 1) hj1).1 ((hSw.cell jp hj0).1)
      rw [hx.out, hy.out] at hCF
      replace hCF := lh hCF
      refine wp_region_held_drew (S := (fun w' => SD w0 base g n cap d w')) (by kernel_rfl) ?_ (fun hHeld => ?_)
      ·(try dsimp only)
       (first | exact hSd.drew | exact hHeld.drew)
      refine takeH 0 ?_
      refine takeH 1 ?_
      refine takeH 2 ?_
      refine takeH 3 ?_
      refine takeH 4 ?_
      refine takeH 5 ?_
      refine takeH 6 ?_
      refine takeH 7 ?_
      refine takeH 8 ?_
      refine takeH 9 ?_
      refine takeH 10 ?_
      refine takeH 11 ?_
      refine takeH 12 ?_
      refine takeH 13 ?_
      refine oneL 14 rfl (by kernel_rfl) (fun K hK => ?_)
      go_simp
      (have hq := HC.out _ x y hHeld.kept hxN hyN; rw [hfx.out, hfy.out] at hq; go_at_call 107; (with_reducible refine hq.mono ?_); rintro e w8 ⟨rfl, rfl⟩)
      refine hK.out _ _ ?_ (fun hHeld2 => ?_)
      ·(try dsimp only)
       (first | exact hSd.drew | exact hHeld.drew)
      clear hK K hHeld
      have hHeld := hHeld2
      clear hHeld2
      try simp only [Act.put,sA,sB,sC]
      refine takeH 15 ?_
      refine takeH 16 ?_
      refine wpAnyH_done (by kernel_rfl) ?_ _
      clear hCF
      (try simp only [Exit.inBlock, Exit.then])
      replace hHeld := lh hHeld
      clear hSd
      go_wp2_with fail
      go_roundw
      case rel => exact ⟨i + 1, d, by omega, by omega, by go_num, hHeld, (show Mv a (min (i + 1) b) d0 d from by rw [Nat.min_eq_left (by omega)]; exact hMv.out), (show Srt ke d a (min (i + 1) b) from by rw [Nat.min_eq_left (by omega)]; exact hdone.out)⟩
      case measure => first | (simp [intOf]; done) | (simp [intOf]; omega)
    ·obtain rfl : j = a := by omega
     have hja1 : ¬ ((j : Int) > (j : Int)) := by omega
     have hja2 : decide ((j : Int) > (j : Int)) = false := decide_eq_false hja1
     have hdone := lh (hI.out.done (g := ke) RI.out haj hji (.inl rfl) hQ.out)
     have hMv := lh (MI.out.wide (Nat.le_refl _) (show i ≤ i + 1 by omega) |>.trans hI.out.mv)
     clear hSd'
     go_wp2_with fail
     refine wp_region_held_drew (S := (fun w' => SD w0 base g n cap d w')) (by kernel_rfl) ?_ (fun hHeld => ?_)
     ·(try dsimp only)
      (first | exact hSd.drew | exact hHeld.drew)
     refine takeQ 0 ?_
     refine takeQ 1 ?_
     refine takeQ 2 ?_
     refine takeQ 3 ?_
     refine idleQ 4 ?_
     refine idleQ 5 ?_
     refine idleQ 6 ?_
     refine idleQ 7 ?_
     refine idleQ 8 ?_
     refine idleQ 9 ?_
     refine idleQ 10 ?_
     refine idleQ 11 ?_
     refine idleQ 12 ?_
     refine idleQ 13 ?_
     refine idleQ 14 ?_
     refine idleQ 15 ?_
     refine takeQ 16 ?_
     refine wpAnyH_done (by kernel_rfl) ?_ _
     (try simp only [Exit.inBlock, Exit.then])
     replace hHeld := lh hHeld
     clear hSd
     go_wp2_with fail
     go_roundw
     case rel => exact ⟨i + 1, d, by omega, by omega, by go_num, hHeld, (show Mv j (min (i + 1) b) d0 d from by rw [Nat.min_eq_left (by omega)]; exact hMv.out), (show Srt ke d j (min (i + 1) b) from by rw [Nat.min_eq_left (by omega)]; exact hdone.out)⟩
     case measure => first | (simp [intOf]; done) | (simp [intOf]; omega)
  ·have hmin : min i b = b := Nat.min_eq_right (by omega)
   rw [hmin] at MI RI
   go_wp2_with fail
   go_end0
   exact ⟨rfl, di, SI.out, MI.out, RI.out⟩
end Go.Proofs.YtkdhdibjbabgfaaGreatDoor
